package frames_test

import (
	"math"
	"reflect"
	"slices"
	"strings"
	"testing"

	"carafe/api"
	"carafe/frames"
	"carafe/kin"
	"carafe/types"
)

// stands is a frame of the types that locals and stack tell.
func stands(at int, locals, stack string) api.Frame {
	return api.Frame{At: at, Locals: strings.Fields(locals), Stack: strings.Fields(stack)}
}

// alike tells whether two frames are the same; nil and empty lists mean the same.
func alike(a, b api.Frame) bool {
	return a.At == b.At && slices.Equal(a.Locals, b.Locals) && slices.Equal(a.Stack, b.Stack)
}

// bare tells whether f is what stands beside a refusal.
func bare(f api.Frame) bool {
	return f.At == 0 && len(f.Locals) == 0 && len(f.Stack) == 0
}

func withClasses(t *testing.T) *kin.Kin {
	t.Helper()
	k := kin.New()
	for _, c := range []api.Class{{Name: "A", Super: "Object"}, {Name: "B", Super: "A"}} {
		if why := k.Add(c); why != api.OK {
			t.Fatal(why)
		}
	}
	return k
}

// P9.1, P9.2: the chapter's runs and examples.
func TestRuns(t *testing.T) {
	if l, why := frames.First("A", api.Method{Desc: "(I)V", Locals: 3}); !slices.Equal(l, []string{"LA;", "I", "?"}) || why != api.OK {
		t.Errorf("First(A, (I)V, Locals 3): %q, %v", l, why)
	}
	if f, l, why := frames.Pop(stands(3, "I", ""), 1); !bare(f) || len(l) != 0 || why != api.ErrDepth {
		t.Errorf("Pop of an empty stack, 1: %v, %q, %v", f, l, why)
	}
	if f, why := frames.Set(stands(3, "I", ""), 1, "I"); !bare(f) || why != api.ErrLocal {
		t.Errorf("Set({Locals I}, 1, I): %v, %v", f, why)
	}
	f := stands(9, "I ?", "I 0")
	if g, l, why := frames.Pop(f, 0); !alike(f, g) || len(l) != 0 || why != api.OK {
		t.Errorf("Pop(f, 0): %v, %q, %v", g, l, why)
	}
	if k := kin.New(); frames.Fits(k, stands(0, "I", ""), stands(0, "I I", "")) || frames.Fits(k, stands(0, "", "I I"), stands(0, "", "I")) {
		t.Error("Fits of unlike lengths")
	}
	if l, why := frames.First("A", api.Method{Desc: "()V", Static: true}); len(l) != 0 || why != api.OK {
		t.Errorf("First of a static ()V with Locals 0: %q, %v", l, why)
	}
}

// P9.1: the class, if it is not Static, the parameters, the rest.
func TestFirst(t *testing.T) {
	eight := "I [I LA; [LB; I I LObject; I"
	for _, c := range []struct {
		class, desc string
		static      bool
		locals      int
		want        string
	}{
		{"A", "()V", true, 0, ""},
		{"A", "()V", true, 1, "?"},
		{"A", "()V", false, 1, "LA;"},
		{"A", "()I", false, 2, "LA; ?"},
		{"Object", "()[LA;", false, 2, "LObject; ?"},
		{"A", "(I)LB;", true, 1, "I"},
		{"A", "(I)V", false, 2, "LA; I"},
		{"A", "(LB;[I[LC;I)V", true, 4, "LB; [I [LC; I"},
		{"A", "(LB;[I[LC;I)V", false, 6, "LA; LB; [I [LC; I ?"},
		{"A", "(I[ILA;[LB;IILObject;I)I", true, 8, eight},
		{"A", "(I[ILA;[LB;IILObject;I)I", false, 9, "LA; " + eight},
		{"A", "(I[ILA;[LB;IILObject;I)I", true, 16, eight + strings.Repeat(" ?", 8)},
		{"A", "(I[ILA;[LB;IILObject;I)I", false, 16, "LA; " + eight + strings.Repeat(" ?", 7)},
		{"A", "()V", true, 16, strings.Repeat("? ", 16)},
		{"A", "()V", false, 16, "LA;" + strings.Repeat(" ?", 15)},
		{"", "()V", false, 1, "L;"},
		{"[I", "()V", false, 1, "L[I;"},
		{"1;?", "(I)V", true, 1, "I"},
	} {
		m := api.Method{Name: "m", Desc: c.desc, Static: c.static, Locals: c.locals}
		if l, why := frames.First(c.class, m); !slices.Equal(l, strings.Fields(c.want)) || why != api.OK {
			t.Errorf("First(%s, %+v): %q, %v", c.class, m, l, why)
		}
	}
}

// P9.1: nothing else of the method is looked at.
func TestFirstOfAnyMethod(t *testing.T) {
	m := api.Method{Name: "1", Desc: "(I)V", Locals: 3, Stack: -5, Native: true, Code: []byte{255}, Handlers: []api.Handler{{From: -1}}, Frames: []api.Frame{stands(-1, "V", "x")}}
	for _, stack := range []int{-5, 0, 17} {
		for _, native := range []bool{true, false} {
			m.Stack, m.Native = stack, native
			if l, why := frames.First("A", m); !slices.Equal(l, []string{"LA;", "I", "?"}) || why != api.OK {
				t.Errorf("First(A, %+v): %q, %v", m, l, why)
			}
		}
	}
}

// P9.1, R3: what is refused, ErrDesc ahead of ErrLocal.
func TestFirstRefuses(t *testing.T) {
	for _, locals := range []int{math.MinInt, -1, 0, 1, 9, 16, 17, 1 << 40, math.MaxInt} {
		for _, desc := range []string{"", "I", "V", "()", "(", ")", "(V)V", "()[V", "(?)V", "(0)V", "(I", "I)V", "(I)", "()VV", " ()V", "(IIIIIIIII)V", "([[I)V", "(LA)V"} {
			for _, static := range []bool{true, false} {
				if l, why := frames.First("A", api.Method{Desc: desc, Static: static, Locals: locals}); len(l) != 0 || why != api.ErrDesc {
					t.Errorf("First of %q, %v, Locals %d: %q, %v", desc, static, locals, l, why)
				}
			}
		}
	}
	for _, desc := range []string{"()V", "(I)V", "(ILA;)I", "(IIIIIIII)V"} {
		for _, static := range []bool{true, false} {
			least := strings.Count(desc, "I") - strings.Count(desc, ")I") + strings.Count(desc, "L")
			if !static {
				least++
			}
			for _, locals := range []int{math.MinInt, -1 << 31, -16, -1, least - 1, 17, 18, 256, 1 << 31, 1 << 40, math.MaxInt} {
				if l, why := frames.First("A", api.Method{Desc: desc, Static: static, Locals: locals}); len(l) != 0 || why != api.ErrLocal {
					t.Errorf("First of %q, %v, Locals %d: %q, %v", desc, static, locals, l, why)
				}
			}
			for _, locals := range []int{least, 16} {
				if l, why := frames.First("A", api.Method{Desc: desc, Static: static, Locals: locals}); len(l) != locals || why != api.OK {
					t.Errorf("First of %q, %v, Locals %d: %q, %v", desc, static, locals, l, why)
				}
			}
		}
	}
}

// P9.2: each place of the locals and of the stack, and no other, is asked; At is not.
func TestFits(t *testing.T) {
	k := withClasses(t)
	from := stands(3, "LB; I 0", "[LB; 0 I")
	to := stands(70000, "LA; ? [I", "LObject; LB; I")
	if !frames.Fits(k, from, to) || frames.Fits(k, to, from) || !frames.Fits(k, from, from) || !frames.Fits(k, to, to) {
		t.Error("of frames that fit")
	}
	for n := range 3 {
		for _, s := range []string{"I", "?", "0", "LA;", "LThread;", "[LB;", "LNone;", "V", ""} {
			for _, part := range []func(*api.Frame) *[]string{locals, stack} {
				other := copied(to)
				(*part(&other))[n] = s
				if got := frames.Fits(k, from, other); got != types.Fits(k, (*part(&from))[n], s) {
					t.Errorf("Fits(%v, %v): %v", from, other, got)
				}
				other = copied(from)
				(*part(&other))[n] = s
				if got := frames.Fits(k, other, to); got != types.Fits(k, s, (*part(&to))[n]) {
					t.Errorf("Fits(%v, %v): %v", other, to, got)
				}
			}
		}
	}
}

func locals(f *api.Frame) *[]string { return &f.Locals }
func stack(f *api.Frame) *[]string  { return &f.Stack }

func copied(f api.Frame) api.Frame {
	return api.Frame{At: f.At, Locals: slices.Clone(f.Locals), Stack: slices.Clone(f.Stack)}
}

// P9.2: as many locals, as many on the stack, each for itself.
func TestFitsOfUnlikeLengths(t *testing.T) {
	k := kin.New()
	sized := func(locals, stack int) api.Frame {
		return stands(0, strings.Repeat("I ", locals), strings.Repeat("I ", stack))
	}
	for a := range 5 * 5 {
		for b := range 5 * 5 {
			if got := frames.Fits(k, sized(a/5, a%5), sized(b/5, b%5)); got != (a == b) {
				t.Errorf("of %d and %d beside %d and %d: %v", a/5, a%5, b/5, b%5, got)
			}
		}
	}
}

// P9.2: each place of the locals and of the stack is asked; At is not.
func TestKnown(t *testing.T) {
	k := withClasses(t)
	f := stands(-70000, "I ? 0 [I LA;", "[LB; LThread; 0 ? I")
	if !frames.Known(k, f) {
		t.Error("of what is known")
	}
	for n := range 5 {
		for _, s := range []string{"LNone;", "[LNone;", "V", "", "[[I", "A", "()V"} {
			for _, part := range []func(*api.Frame) *[]string{locals, stack} {
				wrong := copied(f)
				(*part(&wrong))[n] = s
				if frames.Known(k, wrong) {
					t.Errorf("of %v", wrong)
				}
			}
		}
	}
}

// P9.2, R1: without a Kin no type is known or fits; a frame of none has none that is not.
func TestWithoutClasses(t *testing.T) {
	for _, f := range []api.Frame{stands(0, "I", ""), stands(0, "", "I"), stands(0, "?", "?"), stands(0, "0", ""), stands(0, "", "LObject;")} {
		if frames.Known(nil, f) || frames.Fits(nil, f, f) || frames.Fits(nil, f, api.Frame{}) || frames.Fits(nil, api.Frame{}, f) {
			t.Errorf("of %v", f)
		}
	}
	for _, k := range []*kin.Kin{nil, kin.New()} {
		if !frames.Known(k, api.Frame{At: 7}) || !frames.Fits(k, api.Frame{At: 7}, api.Frame{Locals: []string{}, Stack: []string{}}) {
			t.Error("of frames without any")
		}
	}
}

// P9.2: all that may be popped, the deepest first, and what may not.
func TestPop(t *testing.T) {
	whole := strings.Fields("a b c d e f g h i j k l m n o p q r")
	for size := range len(whole) + 1 {
		f := api.Frame{At: size, Locals: []string{"I", "x"}, Stack: whole[:size]}
		for n := range size + 1 {
			g, l, why := frames.Pop(f, n)
			if why != api.OK || !alike(g, api.Frame{At: size, Locals: f.Locals, Stack: whole[:size-n]}) || !slices.Equal(l, whole[size-n:size]) {
				t.Errorf("Pop(%v, %d): %v, %q, %v", f, n, g, l, why)
			}
		}
		for _, n := range []int{math.MinInt, -size - 1, -2, -1, size + 1, size + 2, 1 << 40, math.MaxInt} {
			if g, l, why := frames.Pop(f, n); !bare(g) || len(l) != 0 || why != api.ErrDepth {
				t.Errorf("Pop(%v, %d): %v, %q, %v", f, n, g, l, why)
			}
		}
	}
}

// P9.2: up to most, whatever that is, and whatever is pushed.
func TestPush(t *testing.T) {
	whole := strings.Fields("a b c d e f g h i j k l m n o p q r")
	for size := range 9 {
		f := api.Frame{At: -size, Locals: []string{"I", "x"}, Stack: whole[:size]}
		for n := range 9 {
			for _, most := range []int{math.MinInt, -1, 0, size, n, size + n - 1, size + n, size + n + 1, 1 << 40, math.MaxInt} {
				g, why := frames.Push(f, most, whole[size:size+n]...)
				if size+n > most {
					if !bare(g) || why != api.ErrDepth {
						t.Errorf("Push(%v, %d) of %d: %v, %v", f, most, n, g, why)
					}
				} else if why != api.OK || !alike(g, api.Frame{At: -size, Locals: f.Locals, Stack: whole[:size+n]}) {
					t.Errorf("Push(%v, %d) of %d: %v, %v", f, most, n, g, why)
				}
			}
		}
	}
	if g, why := frames.Push(stands(4, "I", ""), 2, "V", ""); why != api.OK || !reflect.DeepEqual(g, api.Frame{At: 4, Locals: []string{"I"}, Stack: []string{"V", ""}}) {
		t.Errorf("Push of texts that are no types: %v, %v", g, why)
	}
}

// P9.2: each local, whatever is set, and what is none.
func TestSet(t *testing.T) {
	whole := strings.Fields("a b c d e f g h i j k l m n o p q r")
	for size := range len(whole) + 1 {
		f := api.Frame{At: size, Locals: whole[:size], Stack: []string{"I", "x", "y"}}
		for n := range size {
			for _, s := range []string{"I", "V", "", "LNone;", whole[n]} {
				want := slices.Clone(whole[:size])
				want[n] = s
				if g, why := frames.Set(f, n, s); why != api.OK || !alike(g, api.Frame{At: size, Locals: want, Stack: f.Stack}) {
					t.Errorf("Set(%v, %d, %q): %v, %v", f, n, s, g, why)
				}
			}
		}
		for _, n := range []int{math.MinInt, -size - 1, -2, -1, size, size + 1, 1 << 40, math.MaxInt} {
			if g, why := frames.Set(f, n, "I"); !bare(g) || why != api.ErrLocal {
				t.Errorf("Set(%v, %d, I): %v, %v", f, n, g, why)
			}
		}
	}
}
