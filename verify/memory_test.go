package verify_test

import (
	"fmt"
	"math/rand"
	"slices"
	"testing"

	"carafe/api"
	"carafe/code"
	"carafe/verify"
)

// roomy is l with room behind it that must not be touched.
func roomy[T any](l []T, room T) []T {
	return append(append(make([]T, 0, len(l)+3), l...), room, room, room)[:len(l)]
}

// scribble overwrites l and the room behind it.
func scribble[T any](l []T, by T) {
	l = l[:cap(l)]
	for n := range l {
		l[n] = by
	}
}

func roomyFrame(f api.Frame) api.Frame {
	return api.Frame{At: f.At, Locals: roomy(f.Locals, "room"), Stack: roomy(f.Stack, "room")}
}

// whole tells all of f, the room behind its lists too.
func whole(f api.Frame) string {
	return fmt.Sprint(f.At, f.Locals, f.Stack, f.Locals[:cap(f.Locals)], f.Stack[:cap(f.Stack)])
}

// R2: Step leaves what it meets as it is, and answers new memory, whatever the operation.
func TestStepIsNew(t *testing.T) {
	k, c := withClasses(t)
	stacks := [][]string{list("I I I I"), list("0 0 0 0"), list("I 0 I 0"), list("0 I 0 I"), list("0 I I I"), list("0 0 I 0"), list("LE; LE; LE; LE;"), list("I 0 I I")}
	for op := range allSaid {
		done := 0
		for n := range 3 * len(stacks) {
			m := api.Method{Desc: []string{"()I", "()LA;", "()V"}[n%3], Stack: 9}
			for _, a := range numbersOf(op) {
				f := roomyFrame(api.Frame{At: 4, Locals: list("I 0"), Stack: stacks[n/3]})
				before := whole(f)
				g, why := verify.Step(k, c, m, api.Inst{Op: op, A: a}, f)
				if why != api.OK {
					continue
				}
				done++
				want := text(g)
				if whole(f) != before {
					t.Fatalf("%s changed %s into %s", code.Name(op), before, whole(f))
				}
				scribble(f.Locals, "over")
				scribble(f.Stack, "over")
				if text(g) != want {
					t.Fatalf("%s: what is behind it shares memory with what it met", code.Name(op))
				}
				stack := slices.Clone(g.Stack)
				if scribble(g.Locals, "over"); !slices.Equal(g.Stack, stack) {
					t.Fatalf("%s: locals and stack behind it share memory", code.Name(op))
				}
			}
		}
		if done == 0 {
			t.Errorf("%s is never let by", code.Name(op))
		}
	}
}

// roomyMethod is m with room behind each of its lists; its frames share their memory.
func roomyMethod(m api.Method) api.Method {
	m.Code, m.Handlers = roomy(m.Code, 99), roomy(m.Handlers, api.Handler{Type: "room"})
	m.Frames = roomy(m.Frames, api.Frame{At: -1, Locals: list("room")})
	for n, f := range m.Frames {
		m.Frames[n] = roomyFrame(f)
	}
	return m
}

func wholeMethod(m api.Method) string {
	s := fmt.Sprint(m, m.Code[:cap(m.Code)], m.Handlers[:cap(m.Handlers)], m.Frames[:cap(m.Frames)])
	for _, f := range m.Frames {
		s += whole(f)
	}
	return s
}

// R2: States leaves the class as it is and keeps nothing of it; no two lists of its answer share memory.
func TestStatesAreNew(t *testing.T) {
	k, c := withClasses(t)
	r := rand.New(rand.NewSource(22))
	for range 400 {
		m := roomyMethod(grown(k, c, r.Intn))
		c.Pool, c.Methods = roomy(consts(), api.Const{}), roomy([]api.Method{m}, api.Method{Name: "room"})
		before, class := wholeMethod(m), fmt.Sprint(c, c.Pool[:cap(c.Pool)], c.Methods[:cap(c.Methods)])
		l, why, _ := verify.States(k, c, 0)
		again, _, _ := verify.States(k, c, 0)
		verify.Method(k, c, 0)
		verify.Class(k, c)
		if wholeMethod(m) != before || fmt.Sprint(c, c.Pool[:cap(c.Pool)], c.Methods[:cap(c.Methods)]) != class {
			t.Fatalf("%s is now %s", before, wholeMethod(m))
		}
		if told(l) != told(again) {
			t.Fatalf("once %s, then %s", told(l), told(again))
		}
		for _, f := range m.Frames {
			scribble(f.Locals, "over")
			scribble(f.Stack, "over")
		}
		if told(l) != told(again) || why != api.OK && len(l) > 0 {
			t.Fatalf("States shares memory with the method's frames: %s", told(l))
		}
		mustShareNothing(t, l, again)
	}
}

// mustShareNothing scribbles over each list of l in turn; those that follow must stay what again has.
func mustShareNothing(t *testing.T, l, again []api.Frame) {
	t.Helper()
	for n := range l {
		scribble(l[n].Locals, "over")
		if !slices.Equal(l[n].Stack, again[n].Stack) {
			t.Fatalf("locals and stack of state %d share memory", n)
		}
		scribble(l[n].Stack, "over")
		if told(l[n+1:]) != told(again[n+1:]) {
			t.Fatalf("state %d shares memory with one behind it", n)
		}
	}
}

// R2: what was met is not changed by what becomes of a state that is given out, nor the other way round.
func TestFramesThatShare(t *testing.T) {
	k, c := withClasses(t)
	shared := list("I I")
	m := method("(II)V", 2, 2, api.Nop, api.Nop, api.Return)
	m.Frames = []api.Frame{{At: 0, Locals: shared}, {At: 1, Locals: shared[:2]}, {At: 2, Locals: shared}}
	c.Methods = []api.Method{m}
	l, _, _ := verify.States(k, c, 0)
	again, _, _ := verify.States(k, c, 0)
	mustShareNothing(t, l, again)
	if !slices.Equal(shared, list("I I")) {
		t.Errorf("the method's frames are now %v", shared)
	}
}

// R4: nil and empty lists mean the same.
func TestNilAndEmpty(t *testing.T) {
	k, c := withClasses(t)
	for _, f := range []api.Frame{{}, {Locals: []string{}, Stack: make([]string, 0, 9)}} {
		for op := range allSaid {
			for _, a := range numbersOf(op) {
				mustSay(t, k, c, api.Method{Desc: "()V", Stack: 1}, api.Inst{Op: op, A: a}, f)
			}
		}
		m := method("()V", 0, 0, api.Nop, api.Return)
		for _, h := range [][]api.Handler{nil, {}} {
			for _, fs := range [][]api.Frame{nil, {}, {f}} {
				m.Handlers, m.Frames = h, fs
				if l, why := mustLetBy(t, k, c, m); why != api.OK || told(l) != "0 |; 1 |; " {
					t.Errorf("%+v: %s, %v", m, told(l), why)
				}
			}
		}
	}
	for _, pool := range [][]api.Const{nil, {}} {
		c.Pool = pool
		if _, why := verify.Step(k, c, api.Method{Stack: 1}, api.Inst{Op: api.Ldc}, api.Frame{}); why != api.ErrRef {
			t.Errorf("without constants: %v", why)
		}
	}
	for _, l := range [][]api.Method{nil, {}} {
		c.Methods = l
		if why, n, at := verify.Class(k, c); why != api.OK || n != 0 || at != 0 {
			t.Errorf("without methods: %v, %d, %d", why, n, at)
		}
	}
}

// P10.2: as much code, as many handlers, frames, locals and as deep a stack as there may be.
func TestAsMuchAsMayBe(t *testing.T) {
	k, c := withClasses(t)
	locals := slices.Repeat([]string{"?"}, 16)
	b := slices.Repeat([]byte{api.Null}, 16)
	for len(b) < 1022 {
		b = append(b, api.Swap)
	}
	b = append(b, api.Throw, api.Throw)
	m := api.Method{Name: "x", Desc: "(IIIIIIII)V", Stack: 16, Locals: 16, Code: b}
	for n := range 63 {
		m.Handlers = append(m.Handlers, api.Handler{From: n, To: 1023, At: 1023, Type: "Throwable"})
		m.Frames = append(m.Frames, api.Frame{At: 16 * (n + 1), Locals: locals, Stack: slices.Repeat([]string{"LB;"}, 16)})
	}
	m.Handlers = append(m.Handlers, api.Handler{From: 1023, To: 1024, At: 1023, Type: "Index"})
	m.Frames = append(m.Frames, api.Frame{At: 1023, Locals: locals, Stack: []string{"LThrowable;"}})
	if _, why := mustLetBy(t, k, c, m); why != api.ErrType {
		t.Errorf("a B that is thrown: %v", why)
	}
	for n := range m.Frames[:63] {
		m.Frames[n].Stack = slices.Repeat([]string{"LIndex;"}, 16)
	}
	if l, why := mustLetBy(t, k, c, m); why != api.OK || len(l) != 1024 {
		t.Errorf("%d states, %v", len(l), why)
	}
}
