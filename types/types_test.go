package types_test

import (
	"slices"
	"strings"
	"testing"

	"carafe/api"
	"carafe/kin"
	"carafe/types"
)

var longest = strings.Repeat("n", 64)

// some are classes whose names might be taken for something else.
func some(t *testing.T) (*kin.Kin, said) {
	names := []string{"A", "B", "C", "D", "I", "L", "V", "Objects", "object", "$", "_0", longest}
	s := always()
	for _, name := range names {
		s[name] = "Object"
	}
	s["B"], s["C"], s["D"], s["Objects"], s["L"] = "A", "B", "A", "A", "I"
	return s.built(t, names...), s
}

// none are texts that are no types of a frame.
func none() []string {
	return []string{
		"", " ", "\x00", "\xff", "V", "i", "o", "O", "L", "[", ";", "L;", "[L;", "II", "I;", "I ", " I", "??", "00", "1", "0 ", "?0", "[?", "[0", "[V", "[[", "[[I", "[[LObject;", "[[LNone;", "[I;", "[II", "I[",
		"Object", "LObject", "[LObject", "Object;", "[Object;", "LObject;;", "LObject;I", "LObject;LObject;", " LObject;", "LObject; ", "LObject\x00;", "[LObject;[", "lObject;", "L[I;", "L0;", "L?;", "L1A;", "LA.B;", "Lé;",
		"()V", "(I)V", "L" + longest, "L" + longest + "n;", "[L" + longest + "n;", strings.Repeat("[", 1<<20), "L" + strings.Repeat("n", 1<<20) + ";", "[" + strings.Repeat("L", 1<<20), strings.Repeat("LA;", 1<<18),
	}
}

// strange are types of classes that nobody has.
func strange() []string {
	return []string{"LNone;", "[LNone;", "LLObject;", "LOBJECT;", "LObjec;", "LObject0;", "[LObject_;", "LIndexx;", "[LIndexx;", "L" + longest[1:] + ";", "[L" + longest[1:] + ";", "LE;", "[LE;", "LNull;"}
}

// P8.1 to P8.3: the chapter's runs and examples.
func TestRuns(t *testing.T) {
	k := kin.New()
	for _, x := range [][2]string{{"0", "[I"}, {"[LIndex;", "[LThrowable;"}, {"[I", "LObject;"}, {"I", "?"}} {
		if !types.Fits(k, x[0], x[1]) {
			t.Errorf("Fits(%s, %s): false", x[0], x[1])
		}
	}
	for _, x := range [][3]string{{"LIndex;", "LCast;", "LThrowable;"}, {"[I", "[LObject;", "LObject;"}, {"I", "0", "?"}} {
		if got := types.Join(k, x[0], x[1]); got != x[2] {
			t.Errorf("Join(%s, %s): %s, want %s", x[0], x[1], got, x[2])
		}
	}
	if types.Known(k, "LNone;") {
		t.Error("Known(LNone;)")
	}
	for _, x := range always().all() {
		if got := types.Join(k, x, x); got != x {
			t.Errorf("Join(%s, %s): %s", x, x, got)
		}
	}
}

// P8.1: what is known, and what is a ref: the one hangs on the classes, the other does not.
func TestKnownAndIsRef(t *testing.T) {
	k, s := some(t)
	for _, x := range s.all() {
		if !types.Known(k, x) {
			t.Errorf("Known(%q): false", x)
		}
		if got := types.IsRef(x); got != (x != "I" && x != "?") {
			t.Errorf("IsRef(%q): %v", x, got)
		}
	}
	for _, x := range strange() {
		if types.Known(k, x) || !types.IsRef(x) {
			t.Errorf("of %q: %v, %v, want false, true", x, types.Known(k, x), types.IsRef(x))
		}
	}
	for _, x := range none() {
		if types.Known(k, x) || types.IsRef(x) {
			t.Errorf("of %.80q: %v, %v, want false each", x, types.Known(k, x), types.IsRef(x))
		}
	}
}

// P8.1: each byte as a type, behind and ahead of one, and as a class's name.
func TestBytes(t *testing.T) {
	k, s := some(t)
	for c := range 256 {
		b := string([]byte{byte(c)})
		mustTell(t, k, s, []string{b, "[" + b, b + "I", "I" + b, b + "LA;", "LA;" + b, "LA" + b, "L" + b + ";", "[L" + b + ";", "LA" + b + ";", "I"})
	}
}

// P8.2: each way to fit, and what is next to it.
func TestFits(t *testing.T) {
	k, _ := some(t)
	tos := "I 0 ? [I LObject; [LObject; LA; [LA; LB; [LB; LC; [LC; LD; [LD; LI; [LI; LL; [LL; LObjects; [LObjects; LThrowable; [LThrowable; LIndex; [LIndex;"
	fit := map[string]string{
		"?":            "?",
		"I":            "I ?",
		"0":            strings.TrimPrefix(tos, "I "),
		"[I":           "[I LObject; ?",
		"LObject;":     "LObject; ?",
		"[LObject;":    "[LObject; LObject; ?",
		"LA;":          "LA; LObject; ?",
		"LC;":          "LC; LB; LA; LObject; ?",
		"LD;":          "LD; LA; LObject; ?",
		"[LC;":         "[LC; [LB; [LA; [LObject; LObject; ?",
		"LObjects;":    "LObjects; LA; LObject; ?",
		"[LObjects;":   "[LObjects; [LA; [LObject; LObject; ?",
		"LI;":          "LI; LObject; ?",
		"[LI;":         "[LI; [LObject; LObject; ?",
		"LL;":          "LL; LI; LObject; ?",
		"[LL;":         "[LL; [LI; [LObject; LObject; ?",
		"LThrowable;":  "LThrowable; LObject; ?",
		"LIndex;":      "LIndex; LThrowable; LObject; ?",
		"[LIndex;":     "[LIndex; [LThrowable; [LObject; LObject; ?",
		"[LThrowable;": "[LThrowable; [LObject; LObject; ?",
	}
	for from, l := range fit {
		for _, to := range strings.Fields(tos) {
			if got := types.Fits(k, from, to); got != slices.Contains(strings.Fields(l), to) {
				t.Errorf("Fits(%s, %s): %v", from, to, got)
			}
		}
	}
}

// P8.3: each case, in both orders.
func TestJoin(t *testing.T) {
	k, _ := some(t)
	for _, x := range [][3]string{
		{"I", "I", "I"}, {"I", "?", "?"}, {"I", "0", "?"}, {"I", "[I", "?"}, {"I", "LI;", "?"}, {"I", "LObject;", "?"}, {"I", "[LI;", "?"},
		{"?", "?", "?"}, {"?", "0", "?"}, {"?", "LA;", "?"}, {"?", "[I", "?"}, {"?", "[LA;", "?"},
		{"0", "0", "0"}, {"0", "LA;", "LA;"}, {"0", "[I", "[I"}, {"0", "[LA;", "[LA;"}, {"0", "LObject;", "LObject;"},
		{"LA;", "LA;", "LA;"}, {"LC;", "LB;", "LB;"}, {"LC;", "LA;", "LA;"}, {"LC;", "LD;", "LA;"}, {"LB;", "LD;", "LA;"}, {"LC;", "LObjects;", "LA;"}, {"LC;", "LI;", "LObject;"}, {"LC;", "LObject;", "LObject;"}, {"LC;", "LIndex;", "LObject;"}, {"LIndex;", "LStack;", "LThrowable;"}, {"LThread;", "LSystem;", "LObject;"}, {"L" + longest + ";", "LA;", "LObject;"},
		{"[LA;", "[LA;", "[LA;"}, {"[LC;", "[LB;", "[LB;"}, {"[LC;", "[LD;", "[LA;"}, {"[LC;", "[LI;", "[LObject;"}, {"[LIndex;", "[LCast;", "[LThrowable;"}, {"[LC;", "[LObject;", "[LObject;"},
		{"[I", "[I", "[I"}, {"[I", "[LA;", "LObject;"}, {"[I", "[LI;", "LObject;"}, {"[I", "[LObject;", "LObject;"}, {"[I", "LA;", "LObject;"}, {"[I", "LObject;", "LObject;"},
		{"[LA;", "LA;", "LObject;"}, {"[LC;", "LD;", "LObject;"}, {"[LA;", "LObject;", "LObject;"}, {"[LObject;", "LObject;", "LObject;"}, {"[LObject;", "LThrowable;", "LObject;"},
	} {
		for range 2 {
			if got := types.Join(k, x[0], x[1]); got != x[2] {
				t.Errorf("Join(%s, %s): %s, want %s", x[0], x[1], got, x[2])
			}
			x[0], x[1] = x[1], x[0]
		}
	}
}

// P8.2, P8.3: what is not known fits nothing, not even itself and `?`, and nothing fits it; its Join is `?`.
func TestUnknown(t *testing.T) {
	k, s := some(t)
	for _, x := range append(strange(), none()...) {
		for _, y := range append(s.all(), x, "LNone;", "[LNone;", "", "V") {
			if types.Fits(k, x, y) || types.Fits(k, y, x) {
				t.Errorf("Fits of %.80q and %.80q", x, y)
			}
			if a, b := types.Join(k, x, y), types.Join(k, y, x); a != "?" || b != "?" {
				t.Errorf("Join of %.80q and %.80q: %.80q, %.80q", x, y, a, b)
			}
		}
	}
	mustTell(t, k, s, slices.Concat(s.all(), strange(), none()))
}

// P8.1, R1: without a Kin nothing is known.
func TestWithoutClasses(t *testing.T) {
	l := slices.Concat(always().all(), strange(), none())
	for _, a := range l {
		if types.Known(nil, a) {
			t.Errorf("Known(nil, %.80q)", a)
		}
		for _, b := range l {
			if types.Fits(nil, a, b) || types.Join(nil, a, b) != "?" {
				t.Errorf("of %.80q, %.80q: %v, %.80q", a, b, types.Fits(nil, a, b), types.Join(nil, a, b))
			}
		}
	}
}

// R2, R4: answers hang on the classes that the Kin has when it is asked, and on those of no other.
func TestClassesThatCome(t *testing.T) {
	k, other, s, names := kin.New(), kin.New(), always(), []string{"A", "B", "C"}
	texts := append(always().all(), "LA;", "LB;", "LC;", "[LA;", "[LB;", "[LC;")
	mustTell(t, k, s, texts)
	for n, super := range []string{"Index", "A", "Object"} {
		refused := api.Class{Name: names[n], Super: "None"}
		if why := k.Add(refused); why != api.ErrNone {
			t.Fatal(why)
		}
		mustTell(t, k, s, texts)
		if why := k.Add(api.Class{Name: names[n], Super: super}); why != api.OK {
			t.Fatal(why)
		}
		s[names[n]] = super
		mustTell(t, k, s, texts)
	}
	mustTell(t, other, always(), texts)
	r := always()
	r["A"], r["C"], r["B"] = "Object", "A", "C"
	mustTell(t, r.built(t, "A", "C", "B"), r, texts)
	mustTell(t, k, s, texts)
}

// R2: the Kin is left as it is.
func TestLeavesTheKin(t *testing.T) {
	k, s := some(t)
	before := k.Names()
	mustTell(t, k, s, append(s.all(), "LNone;", "[LNone;"))
	if got := k.Names(); !slices.Equal(got, before) {
		t.Errorf("Names: %q, want %q", got, before)
	}
	for _, name := range before {
		if c, _ := k.Get(name); c.Super != s[name] {
			t.Errorf("%s is below %q, want %q", name, c.Super, s[name])
		}
	}
}
