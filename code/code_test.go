package code_test

import (
	"math"
	"testing"

	"carafe/api"
	"carafe/code"
)

// What an operation asks for.
const (
	nothing    = iota
	signedByte // A
	plainByte  // A
	signedPair // A
	plainPair  // A
	twoBytes   // A, and B with its sign
	target     // A, from where it stands
)

type operation struct {
	name string
	asks int
}

// known says anew, by numbers, what there is.
var known = map[int]operation{
	0: {"nop", nothing}, 1: {"null", nothing}, 2: {"constm1", nothing}, 3: {"const0", nothing}, 4: {"const1", nothing},
	5: {"const2", nothing}, 6: {"const3", nothing}, 7: {"const4", nothing}, 8: {"const5", nothing},
	16: {"push1", signedByte}, 17: {"push2", signedPair}, 18: {"ldc", plainByte},
	21: {"iload", plainByte}, 25: {"aload", plainByte}, 46: {"iaload", nothing}, 50: {"aaload", nothing},
	54: {"istore", plainByte}, 58: {"astore", plainByte}, 79: {"iastore", nothing}, 83: {"aastore", nothing},
	87: {"pop", nothing}, 89: {"dup", nothing}, 95: {"swap", nothing},
	96: {"add", nothing}, 100: {"sub", nothing}, 104: {"mul", nothing}, 108: {"div", nothing}, 112: {"rem", nothing}, 116: {"neg", nothing},
	120: {"shl", nothing}, 122: {"shr", nothing}, 124: {"ushr", nothing}, 126: {"and", nothing}, 128: {"or", nothing}, 130: {"xor", nothing},
	132: {"inc", twoBytes},
	153: {"ifeq", target}, 154: {"ifne", target}, 155: {"iflt", target}, 156: {"ifge", target}, 157: {"ifgt", target}, 158: {"ifle", target},
	159: {"cmpeq", target}, 160: {"cmpne", target}, 161: {"cmplt", target}, 162: {"cmpge", target}, 163: {"cmpgt", target}, 164: {"cmple", target},
	165: {"refeq", target}, 166: {"refne", target}, 167: {"goto", target},
	172: {"ireturn", nothing}, 176: {"areturn", nothing}, 177: {"return", nothing},
	178: {"getstatic", plainPair}, 179: {"putstatic", plainPair}, 180: {"getfield", plainPair}, 181: {"putfield", plainPair},
	182: {"virtual", plainPair}, 184: {"static", plainPair},
	187: {"new", plainPair}, 188: {"newints", plainByte}, 189: {"newrefs", plainPair}, 190: {"length", nothing}, 191: {"throw", nothing},
	192: {"cast", plainPair}, 193: {"isa", plainPair}, 194: {"enter", nothing}, 195: {"exit", nothing},
	198: {"ifnull", target}, 199: {"ifsome", target},
}

// size is how many bytes what asks for that has.
func size(asks int) int {
	return []int{nothing: 1, signedByte: 2, plainByte: 2, signedPair: 3, plainPair: 3, twoBytes: 3, target: 3}[asks]
}

func mustTell(t *testing.T, op int, o operation, ok bool) {
	t.Helper()
	want, ends := 0, false
	if ok {
		want = size(o.asks)
	}
	switch op {
	case 167, 172, 176, 177, 191:
		ends = true
	}
	if n := code.Size(op); n != want {
		t.Errorf("Size(%d): %d, want %d", op, n, want)
	}
	if b := code.Branch(op); b != (ok && o.asks == target) {
		t.Errorf("Branch(%d): %v", op, b)
	}
	if e := code.Ends(op); e != ends {
		t.Errorf("Ends(%d): %v", op, e)
	}
	if s := code.Name(op); s != o.name {
		t.Errorf("Name(%d): %q, want %q", op, s, o.name)
	}
}

// P5.1: all that there is, and all around it.
func TestOperations(t *testing.T) {
	for op := -1000; op <= 70000; op++ {
		o, ok := known[op]
		mustTell(t, op, o, ok)
	}
	for _, far := range []int{math.MinInt, math.MinInt32, -1 << 16, 1 << 16, 1 << 31, 1 << 32, 1 << 62} {
		for op := range known {
			mustTell(t, far+op, operation{}, false)
		}
	}
	mustTell(t, math.MaxInt, operation{}, false)
}

// P5.1: names are as api has them; those that the document names in its lists and its runs.
func TestNamedByTheDocument(t *testing.T) {
	for n, ops := range map[int][]int{
		2: {api.Push1, api.Ldc, api.ILoad, api.ALoad, api.IStore, api.AStore, api.NewInts},
		3: {api.Push2, api.Inc, api.IfEq, api.CmpLe, api.RefEq, api.RefNe, api.Goto, api.IfNull, api.IfSome, api.GetStatic, api.Virtual, api.Static, api.New, api.NewRefs, api.Cast, api.IsA},
		1: {api.Nop, api.Null, api.ConstM1, api.Const5, api.IaLoad, api.Swap, api.Ushr, api.IReturn, api.AReturn, api.Return, api.Length, api.Throw, api.Enter, api.Exit},
		0: {9, 15, 19, 133, 152, 168, 171, 183, 185, 186, 196, 197, 200, 255, 256, -1},
	} {
		for _, op := range ops {
			if code.Size(op) != n {
				t.Errorf("Size(%d): %d, want %d", op, code.Size(op), n)
			}
		}
	}
	for op, want := range map[int]string{api.Ushr: "ushr", 9: "", api.ConstM1: "constm1", api.IsA: "isa", api.NewInts: "newints"} {
		if s := code.Name(op); s != want {
			t.Errorf("Name(%d): %q, want %q", op, s, want)
		}
	}
}
