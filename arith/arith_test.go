package arith_test

import (
	"math"
	"math/rand"
	"testing"

	"carafe/api"
	"carafe/arith"
	"carafe/code"
)

const least, most = math.MinInt32, math.MaxInt32

// binary are the operations of Two, tests those of Test.
var (
	binary = []int{api.Add, api.Sub, api.Mul, api.Div, api.Rem, api.Shl, api.Shr, api.Ushr, api.And, api.Or, api.Xor}
	tests  = []int{api.IfEq, api.IfNe, api.IfLt, api.IfGe, api.IfGt, api.IfLe, api.CmpEq, api.CmpNe, api.CmpLt, api.CmpGe, api.CmpGt, api.CmpLe}
)

func mustTwo(t *testing.T, op int, a, b int32) {
	t.Helper()
	want := two(op, int64(a), int64(b))
	if n, why := arith.Two(op, a, b); int64(n) != want.n || why != want.why {
		t.Errorf("Two(%d, %d, %d): %d, %v, want %d, %v", op, a, b, n, why, want.n, want.why)
	}
}

func mustOne(t *testing.T, op int, a int32) {
	t.Helper()
	want := one(op, int64(a))
	if n, why := arith.One(op, a); int64(n) != want.n || why != want.why {
		t.Errorf("One(%d, %d): %d, %v, want %d, %v", op, a, n, why, want.n, want.why)
	}
}

func mustTest(t *testing.T, op int, a, b int32) {
	t.Helper()
	want, whyNot := test(op, int64(a), int64(b))
	if is, why := arith.Test(op, a, b); is != want || why != whyNot {
		t.Errorf("Test(%d, %d, %d): %v, %v, want %v, %v", op, a, b, is, why, want, whyNot)
	}
}

func mustConst(t *testing.T, i api.Inst) {
	t.Helper()
	want, is := constant(i)
	if n, ok := arith.Const(i); int64(n) != want || ok != is {
		t.Errorf("Const(%v): %d, %v, want %d, %v", i, n, ok, want, is)
	}
}

// mustAll holds each call against what is said anew, of two numbers.
func mustAll(t *testing.T, a, b int32) {
	t.Helper()
	for _, op := range binary {
		mustTwo(t, op, a, b)
	}
	for _, op := range tests {
		mustTest(t, op, a, b)
	}
	mustOne(t, api.Neg, a)
}

// P12.1: the runs, the examples, and what the promise names, as numbers that are written out.
func TestRuns(t *testing.T) {
	for _, x := range []struct {
		op      int
		a, b, n int32
	}{
		{api.Div, -7, 2, -3}, {api.Rem, -7, 2, -1}, {api.Div, 7, -2, -3}, {api.Rem, 7, -2, 1}, {api.Div, -7, -2, 3}, {api.Rem, -7, -2, -1}, {api.Div, 7, 2, 3}, {api.Rem, 7, 2, 1},
		{api.Div, least, -1, least}, {api.Rem, least, -1, 0}, {api.Div, least, 1, least}, {api.Div, 1, least, 0}, {api.Rem, 1, least, 1}, {api.Div, 0, 5, 0}, {api.Rem, 0, -5, 0},
		{api.Ushr, -1, 33, most}, {api.Ushr, -1, 32, -1}, {api.Ushr, -1, -1, 1}, {api.Ushr, least, 31, 1}, {api.Ushr, -8, 1, 2147483644},
		{api.Shr, -8, 1, -4}, {api.Shr, -1, 31, -1}, {api.Shr, -7, 1, -4}, {api.Shr, least, 32, least}, {api.Shr, most, 30, 1},
		{api.Shl, 1, 31, least}, {api.Shl, 1, 32, 1}, {api.Shl, 3, 31, least}, {api.Shl, 3, -31, 6}, {api.Shl, -1, 4, -16},
		{api.Add, most, 1, least}, {api.Add, least, least, 0}, {api.Add, -1, 1, 0}, {api.Sub, least, 1, most}, {api.Sub, 0, least, least}, {api.Sub, -1, least, most}, {api.Sub, 3, 5, -2},
		{api.Mul, least, -1, least}, {api.Mul, 65536, 65536, 0}, {api.Mul, most, most, 1}, {api.Mul, -3, 5, -15},
		{api.And, 12, 10, 8}, {api.Or, 12, 10, 14}, {api.Xor, 12, 10, 6}, {api.And, -1, least, least}, {api.Or, least, most, -1}, {api.Xor, -1, most, least},
	} {
		if n, why := arith.Two(x.op, x.a, x.b); n != x.n || why != api.OK {
			t.Errorf("Two(%d, %d, %d): %d, %v, want %d", x.op, x.a, x.b, n, why, x.n)
		}
	}
	for a, want := range map[int32]int32{0: 0, 1: -1, -1: 1, most: -most, -most: most, least: least} {
		if n, why := arith.One(api.Neg, a); n != want || why != api.OK {
			t.Errorf("One(Neg, %d): %d, %v, want %d", a, n, why, want)
		}
	}
	if n, why := arith.One(api.Add, 1); n != 0 || why != api.ErrOp {
		t.Errorf("One(Add, 1): %d, %v", n, why)
	}
	if is, why := arith.Test(api.IfLt, -1, 9); !is || why != api.OK {
		t.Errorf("Test(IfLt, -1, 9): %v, %v", is, why)
	}
}

// P12.2: the run, the example, and each instruction that has a number, as numbers that are written out.
func TestConstRuns(t *testing.T) {
	for i, want := range map[api.Inst]int32{
		{Op: api.ConstM1}: -1, {Op: api.Const0}: 0, {Op: api.Const1}: 1, {Op: api.Const2}: 2, {Op: api.Const3}: 3, {Op: api.Const4}: 4, {Op: api.Const5}: 5,
		{Op: api.Push1, A: -128}: -128, {Op: api.Push1, A: 127}: 127, {Op: api.Push1}: 0, {Op: api.Push2, A: -32768}: -32768, {Op: api.Push2, A: 32767}: 32767, {Op: api.Push2, A: -1}: -1,
	} {
		if n, ok := arith.Const(i); n != want || !ok {
			t.Errorf("Const(%v): %d, %v, want %d", i, n, ok, want)
		}
	}
	for _, i := range []api.Inst{{Op: api.Ldc}, {Op: api.Ldc, A: 7}, {Op: api.Null}, {Op: api.ILoad, A: 3}, {Op: api.Inc, A: 1, B: 1}, {}} {
		if n, ok := arith.Const(i); n != 0 || ok {
			t.Errorf("Const(%v): %d, %v", i, n, ok)
		}
	}
}

// P12.1: each operation with each two numbers at the edges, and each two small ones.
func TestEdges(t *testing.T) {
	for _, a := range edges() {
		for _, b := range edges() {
			mustAll(t, a, b)
		}
		if t.Failed() {
			return
		}
	}
}

// P12.1: each shift of each edge by each number whose lowest bits might be taken for more or fewer than five.
func TestShifts(t *testing.T) {
	for _, a := range edges() {
		for by := range int32(32) {
			for _, more := range []int32{0, 32, 64, 128, 1 << 8, 1 << 16, 1 << 30, -32, -64, -256, least} {
				for _, op := range []int{api.Shl, api.Shr, api.Ushr} {
					mustTwo(t, op, a, by+more)
				}
			}
		}
		if t.Failed() {
			return
		}
	}
}

// P12.1: nothing is divided by 0, whatever it is, and nothing else is refused for a 0.
func TestByZero(t *testing.T) {
	for _, a := range edges() {
		for _, op := range binary {
			want := api.OK
			if op == api.Div || op == api.Rem {
				want = api.ErrNone
			}
			n, why := arith.Two(op, a, 0)
			if why != want || why != api.OK && n != 0 {
				t.Errorf("Two(%d, %d, 0): %d, %v, want %v", op, a, n, why, want)
			}
		}
	}
}

// P12.1: quotient and remainder make the number whole again, and the remainder is nearer to 0 than what divides, with the number's sign.
func TestWholeAgain(t *testing.T) {
	for _, a := range edges() {
		for _, b := range edges() {
			if b == 0 {
				continue
			}
			q, _ := arith.Two(api.Div, a, b)
			m, _ := arith.Two(api.Rem, a, b)
			if q*b+m != a || size(int64(m)) >= size(int64(b)) || m < 0 && a >= 0 || m > 0 && a <= 0 {
				t.Fatalf("%d by %d: %d, and %d is left", a, b, q, m)
			}
		}
	}
}

// P12.1: an If does not look at the second number.
func TestIfAlone(t *testing.T) {
	for _, op := range tests[:6] {
		for _, a := range edges() {
			want, _ := arith.Test(op, a, 0)
			for _, b := range []int32{1, -1, a, most, least} {
				if is, why := arith.Test(op, a, b); is != want || why != api.OK {
					t.Errorf("Test(%d, %d, %d): %v, %v, want %v", op, a, b, is, why, want)
				}
			}
		}
	}
}

// P12.1, P12.2, R1, R3: whatever the operation: ErrOp comes ahead of ErrNone, and beside a refusal or a false nothing is told.
func TestWhateverOperation(t *testing.T) {
	for _, op := range ops() {
		for _, a := range []int32{0, 1, -1, 9, most, least} {
			for _, b := range []int32{0, 1, -1, 3, 31, most, least} {
				mustTwo(t, op, a, b)
				mustTest(t, op, a, b)
			}
			mustOne(t, op, a)
			mustConst(t, api.Inst{Op: op, A: int(a)})
			mustConst(t, api.Inst{Op: op, A: int(a), At: 5, B: 7})
		}
	}
}

// P12.2: At and B are not looked at, A of Push1 and Push2 alone; an A that no bytes tell is a number too, and wraps.
func TestConstOperands(t *testing.T) {
	wide := []int{math.MinInt, math.MaxInt, 1 << 31, 1<<31 - 1, -1 << 31, -1<<31 - 1, 1 << 32, 1<<32 + 5, -1<<32 - 5, 128, -129, 255, 256, 32768, -32769, 65535, 65536, 77, -1, 0}
	for op := range 256 {
		for _, a := range wide {
			for _, other := range wide {
				mustConst(t, api.Inst{At: other, Op: op, A: a})
				mustConst(t, api.Inst{Op: op, A: a, B: other})
			}
		}
	}
}

// P12.2: of what package code reads: each number that an instruction has room for.
func TestConstOfBytes(t *testing.T) {
	for n := -32768; n <= 32767; n++ {
		b := []byte{api.Push2, byte(n >> 8), byte(n)}
		if n >= -128 && n <= 127 {
			b = append(b, api.Push1, byte(n))
		}
		l, why, _ := code.Decode(b)
		if why != api.OK {
			t.Fatal(why)
		}
		for _, i := range l {
			if got, ok := arith.Const(i); int(got) != n || !ok {
				t.Errorf("Const(%v): %d, %v, want %d", i, got, ok, n)
			}
		}
	}
}

// P12.1: numbers of all sizes, by the thousand.
func TestDrawn(t *testing.T) {
	r := rand.New(rand.NewSource(12))
	for range 100000 {
		a, b := int32(r.Uint32())>>r.Intn(32), int32(r.Uint32())>>r.Intn(32)
		mustAll(t, a, b)
		if t.Failed() {
			return
		}
	}
}

// P12.1, P12.2: whatever the operation and the numbers.
func FuzzArith(f *testing.F) {
	f.Add(api.Div, int32(least), int32(-1), 0)
	f.Add(api.Rem, int32(-7), int32(0), 9)
	f.Add(api.CmpLt, int32(least), int32(most), 1<<40)
	f.Add(api.Push2, int32(0), int32(0), -300)
	f.Fuzz(func(t *testing.T, op int, a, b int32, n int) {
		mustTwo(t, op, a, b)
		mustOne(t, op, a)
		mustTest(t, op, a, b)
		mustConst(t, api.Inst{Op: op, A: n})
		mustAll(t, a, b)
	})
}
