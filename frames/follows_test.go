package frames_test

import (
	"math/rand"
	"reflect"
	"slices"
	"testing"

	"carafe/api"
	"carafe/frames"
	"carafe/kin"
)

// P9.2: what is pushed is popped again, and what is popped may be pushed again.
func TestPushAndPop(t *testing.T) {
	r := rand.New(rand.NewSource(92))
	for range 2000 {
		f := api.Frame{At: r.Intn(99), Locals: mostly(r, r.Intn(5)), Stack: mostly(r, r.Intn(9))}
		l := mostly(r, r.Intn(9))
		g, why := frames.Push(f, 16, l...)
		h, popped, why2 := frames.Pop(g, len(l))
		if why != api.OK || why2 != api.OK || !alike(f, h) || !slices.Equal(l, popped) {
			t.Fatalf("%v with %q and back: %v, %q", f, l, h, popped)
		}
		n := r.Intn(len(f.Stack) + 1)
		g, popped, _ = frames.Pop(f, n)
		if h, why := frames.Push(g, len(f.Stack), popped...); why != api.OK || !alike(f, h) {
			t.Fatalf("%v without %d and back: %v, %v", f, n, h, why)
		}
	}
}

// P9.2: Fits is an order of frames, as it is one of types.
func TestFitsIsAnOrder(t *testing.T) {
	r, k, fit := rand.New(rand.NewSource(93)), withClasses(t), 0
	for range 5000 {
		a := api.Frame{At: r.Intn(9), Locals: mostly(r, 2), Stack: mostly(r, 1)}
		b := api.Frame{At: r.Intn(9), Locals: wider(r, k, a.Locals), Stack: wider(r, k, a.Stack)}
		c := api.Frame{At: r.Intn(9), Locals: wider(r, k, b.Locals), Stack: wider(r, k, b.Stack)}
		if frames.Fits(k, a, a) != frames.Known(k, a) {
			t.Fatalf("%v beside itself", a)
		}
		if same := slices.Equal(a.Locals, b.Locals) && slices.Equal(a.Stack, b.Stack); frames.Fits(k, a, b) && frames.Fits(k, b, a) && !same {
			t.Fatalf("%v and %v fit each other", a, b)
		}
		if frames.Fits(k, a, b) && frames.Fits(k, b, c) {
			fit++
			if !frames.Fits(k, a, c) {
				t.Fatalf("%v fits %v, that %v, but not the first the last", a, b, c)
			}
		}
	}
	if fit < 500 {
		t.Errorf("only %d fit", fit)
	}
}

// roomy is a list with room behind it that must not be touched.
func roomy(l ...string) []string {
	return append(append(make([]string, 0, 40), l...), slices.Repeat([]string{"room"}, 20)...)[:len(l)]
}

// scribble overwrites a list and the room behind it.
func scribble(l []string) {
	l = l[:cap(l)]
	for n := range l {
		l[n] = "scribbled"
	}
}

// answers are all that the calls answer of f.
func answers(t *testing.T, f api.Frame, l []string) (fs []api.Frame, lists [][]string) {
	t.Helper()
	must := func(g api.Frame, why api.Errno) {
		if why != api.OK {
			t.Fatal(why)
		}
		fs, lists = append(fs, g), append(lists, g.Locals, g.Stack)
	}
	for n := range len(f.Stack) + 1 {
		g, popped, why := frames.Pop(f, n)
		must(g, why)
		lists = append(lists, popped)
	}
	for n := range len(l) + 1 {
		must(frames.Push(f, 40, l[:n]...))
	}
	for n := range f.Locals {
		must(frames.Set(f, n, "set"))
	}
	return fs, lists
}

// R2, R5: what is handed in stays as it is, its spare room too.
func TestLeavesWhatIsGiven(t *testing.T) {
	f := api.Frame{At: 5, Locals: roomy("a", "b"), Stack: roomy("c", "d", "e")}
	l := roomy("g", "h")
	whole := func() [][]string {
		return [][]string{slices.Clone(f.Locals[:22]), slices.Clone(f.Stack[:23]), slices.Clone(l[:22])}
	}
	before := whole()
	_, lists := answers(t, f, l)
	frames.Fits(kin.New(), f, f)
	frames.Known(kin.New(), f)
	if !reflect.DeepEqual(before, whole()) {
		t.Fatalf("what was given is now %q", whole())
	}
	for _, answer := range lists {
		scribble(answer)
	}
	if !reflect.DeepEqual(before, whole()) {
		t.Errorf("an answer shares memory with what was given: %q", whole())
	}
}

// R2: an answer is not changed by what becomes of what was given.
func TestKeepsNothing(t *testing.T) {
	f := api.Frame{At: 5, Locals: roomy("a", "b"), Stack: roomy("c", "d", "e")}
	l := roomy("g", "h")
	fs, lists := answers(t, f, l)
	again, listsAgain := answers(t, copied(f), slices.Clone(l))
	scribble(f.Locals)
	scribble(f.Stack)
	scribble(l)
	if !reflect.DeepEqual(fs, again) || !reflect.DeepEqual(lists, listsAgain) {
		t.Errorf("answers are now %v, %q", fs, lists)
	}
}

// R2: no two lists of one answer, and none of two answers, share memory.
func TestListsOfAnswers(t *testing.T) {
	f := api.Frame{At: 5, Locals: roomy("a", "b"), Stack: roomy("c", "d", "e")}
	f.Stack = f.Locals[:2] // also if those that are given do
	_, lists := answers(t, f, f.Locals)
	_, again := answers(t, f, f.Locals)
	for n := range lists {
		scribble(lists[n])
		for i := n + 1; i < len(lists); i++ {
			if !slices.Equal(lists[i], again[i]) {
				t.Fatalf("list %d shares memory with list %d", n, i)
			}
		}
	}
}

// R2: First answers a list of its own each time.
func TestFirstIsNew(t *testing.T) {
	for _, m := range []api.Method{{Desc: "(I)V", Locals: 3}, {Desc: "(II)V", Locals: 3, Static: true}, {Desc: "()V", Locals: 16, Static: true}} {
		a, _ := frames.First("A", m)
		b, _ := frames.First("A", m)
		scribble(a)
		if c, _ := frames.First("A", m); !slices.Equal(b, c) || len(b) != m.Locals {
			t.Errorf("of %+v: %q, then %q", m, b, c)
		}
	}
}

// R4: nil and empty lists mean the same.
func TestNilAndEmpty(t *testing.T) {
	k, none, empty := kin.New(), api.Frame{At: 1}, api.Frame{At: 1, Locals: []string{}, Stack: make([]string, 0, 9)}
	if !frames.Fits(k, none, empty) || !frames.Fits(k, empty, none) || !frames.Known(k, none) || !frames.Known(k, empty) {
		t.Error("of frames without any")
	}
	for _, f := range []api.Frame{none, empty} {
		if g, l, why := frames.Pop(f, 0); !alike(g, none) || len(l) != 0 || why != api.OK {
			t.Errorf("Pop: %v, %q, %v", g, l, why)
		}
		for _, l := range [][]string{nil, {}} {
			if g, why := frames.Push(f, 0, l...); !alike(g, none) || why != api.OK {
				t.Errorf("Push: %v, %v", g, why)
			}
		}
		if g, why := frames.Set(f, 0, "I"); !bare(g) || why != api.ErrLocal {
			t.Errorf("Set: %v, %v", g, why)
		}
	}
}
