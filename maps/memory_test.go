package maps_test

import (
	"fmt"
	"math/rand"
	"slices"
	"testing"

	"carafe/api"
	"carafe/maps"
)

// roomy is l with room behind it that must be neither read nor written.
func roomy[T any](l []T, room T) []T {
	return append(append(make([]T, 0, len(l)+3), l...), room, room, room)[:len(l)]
}

// whole tells l and the room behind it.
func whole[T any](l []T) string { return fmt.Sprint(len(l), l[:cap(l)]) }

// scribble overwrites l and the room behind it.
func scribble[T any](l []T, by T) {
	l = l[:cap(l)]
	for n := range l {
		l[n] = by
	}
}

// R2, R5: Live leaves what it is given as it is, and its lists share memory with nothing, not with one another either.
func TestLiveIsNew(t *testing.T) {
	r := rand.New(rand.NewSource(2))
	for range 500 {
		l := anyCode(r.Intn, 20)
		h := roomy(anyHandlers(r.Intn, l), api.Handler{To: 1024, At: 0})
		l = roomy(l, api.Inst{At: end(l), Op: api.ILoad})
		code, handlers := whole(l), whole(h)
		locals := r.Intn(17)
		live, want := maps.Live(l, h, locals), told(saidLive(l, h, locals))
		scribble(maps.Live(l, h, locals), nil)
		if whole(l) != code || whole(h) != handlers || told(live) != want {
			t.Fatalf("Live(%v, %v, %d): %s, and now %v, %v", l, h, locals, told(live), whole(l), whole(h))
		}
		mustShareNothing(t, live)
		if again := told(maps.Live(l, h, locals)); again != want {
			t.Fatalf("Live(%v, %v, %d): once %s, then %s", l, h, locals, want, again)
		}
	}
}

// mustShareNothing overwrites each list in turn: those behind it stay as they are.
func mustShareNothing(t *testing.T, lists [][]bool) {
	t.Helper()
	for n := range lists {
		before := told(lists[n+1:])
		for _, by := range []bool{true, false} {
			scribble(lists[n], by)
			if told(lists[n+1:]) != before {
				t.Fatalf("list %d shares memory with one behind it", n)
			}
		}
	}
}

// roomyClass is a class of this method, with room behind its lists.
func roomyClass(c api.Class, m api.Method) api.Class {
	m.Code, m.Handlers = roomy(m.Code, api.Return), roomy(m.Handlers, api.Handler{To: 1024})
	m.Frames = roomy(m.Frames, api.Frame{At: 1})
	for n, f := range m.Frames {
		m.Frames[n].Locals, m.Frames[n].Stack = roomy(f.Locals, "room"), roomy(f.Stack, "room")
	}
	c.Pool, c.Methods = roomy(c.Pool, api.Const{}), roomy([]api.Method{m}, api.Method{Native: true})
	return c
}

func wholeClass(c api.Class) string {
	m := c.Methods[0]
	s := fmt.Sprint(whole(c.Pool), whole(c.Methods), whole(m.Code), whole(m.Handlers), whole(m.Frames))
	for _, f := range m.Frames {
		s += whole(f.Locals) + whole(f.Stack)
	}
	return s
}

// R2: Of leaves the class as it is; no two lists of its answer share memory, and none does with another answer.
func TestOfIsNew(t *testing.T) {
	k, c := world(t)
	r := rand.New(rand.NewSource(3))
	for range 300 {
		c := roomyClass(c, drawn(k, c, r.Intn))
		before := wholeClass(c)
		l, why := mustMap(t, k, c, 0)
		again, _ := maps.Of(k, c, 0)
		if why != api.OK || wholeClass(c) != before {
			t.Fatalf("%v: %s is now %s", why, before, wholeClass(c))
		}
		var lists [][]bool
		for _, m := range l {
			lists = append(lists, m.Locals, m.Stack, m.Live)
		}
		want := toldMaps(again)
		mustShareNothing(t, lists)
		scribble(l, maps.Map{})
		if toldMaps(again) != want {
			t.Fatalf("two answers share memory: %s, %s", want, toldMaps(again))
		}
		if third, _ := maps.Of(k, c, 0); toldMaps(third) != want {
			t.Fatalf("once %s, then %s", want, toldMaps(third))
		}
	}
}

// R2, R5: Roots leaves the map as it is, and reads nothing behind its lists.
func TestRootsAreNew(t *testing.T) {
	for _, x := range bools(3) {
		m := maps.Map{Locals: roomy(x, true), Stack: roomy(x[:len(x)/2], true), Live: roomy(x[len(x)/3:], true)}
		before := whole(m.Locals) + whole(m.Stack) + whole(m.Live)
		roots, again := maps.Roots(m), maps.Roots(m)
		if scribble(again, -1); !slices.Equal(roots, saidRoots(m)) || whole(m.Locals)+whole(m.Stack)+whole(m.Live) != before {
			t.Errorf("Roots(%v): %v", m, roots)
		}
	}
}
