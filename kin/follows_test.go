package kin_test

import (
	"math/rand"
	"slices"
	"testing"

	"carafe/api"
	"carafe/kin"
)

// woods are Kins with as many classes as there may be, each below any one ahead of it.
func woods(t *testing.T) (l []*kin.Kin) {
	r := rand.New(rand.NewSource(74))
	for range 20 {
		k := kin.New()
		for n := range 32 - 13 {
			names := k.Names()
			c := numbered(n, names[r.Intn(len(names))])
			for _, f := range []string{"f", "g", "h"} {
				if r.Intn(3) == 0 {
					c.Fields = append(c.Fields, api.Field{Name: f, Desc: "I", Static: r.Intn(2) == 0})
				}
			}
			for i, m := range []string{"m", "n", "wait", "s"} {
				if r.Intn(3) == 0 {
					c.Methods = append(c.Methods, method(i == 3, m, "()V"))
				}
			}
			if why := k.Add(c); why != api.OK {
				t.Fatalf("Add(%+v): %v", c, why)
			}
		}
		l = append(l, k)
	}
	return l
}

// P7.4: Sub is an order, and Line names just what a class is Sub of, the nearer first.
func TestSubIsAnOrder(t *testing.T) {
	for _, k := range woods(t) {
		names := k.Names()
		for _, a := range names {
			if !k.Sub(a, a) || !k.Sub(a, "Object") {
				t.Errorf("Sub of %s", a)
			}
			var above []string
			for _, b := range names {
				if k.Sub(a, b) {
					above = append(above, b)
				}
				if a != b && k.Sub(a, b) && k.Sub(b, a) {
					t.Errorf("%s and %s", a, b)
				}
				for _, c := range names {
					if k.Sub(a, b) && k.Sub(b, c) && !k.Sub(a, c) {
						t.Errorf("%s, %s, %s", a, b, c)
					}
				}
			}
			slices.Reverse(above) // who is above came ahead
			if got := k.Line(a); !slices.Equal(got, above) {
				t.Errorf("Line(%s): %q, want %q", a, got, above)
			}
		}
	}
}

// P7.4: a class has its own, and beside that what its super has.
func TestWhatAClassHas(t *testing.T) {
	own, fromAbove := 0, 0
	for _, k := range woods(t) {
		for _, name := range k.Names() {
			c, _ := k.Get(name)
			for _, part := range []string{"f", "g", "h", "m", "n", "wait", "s", "run", "notify", "none"} {
				at, f, ok := k.Field(name, part, "I")
				want, g, has := k.Field(c.Super, part, "I")
				for _, mine := range c.Fields {
					if mine.Name == part {
						want, g, has = name, mine, true
					}
				}
				if at != want || f != g || ok != has {
					t.Errorf("Field(%s, %s): %s %v %v, want %s %v %v", name, part, at, f, ok, want, g, has)
				}
				at, m, ok := k.Method(name, part, "()V")
				want, n, has := k.Method(c.Super, part, "()V")
				for _, mine := range c.Methods {
					if mine.Name == part && mine.Desc == "()V" {
						want, n, has = name, mine, true
					}
				}
				if at != want || told(m) != told(n) || ok != has {
					t.Errorf("Method(%s, %s): %s %v %v, want %s %v %v", name, part, at, m, ok, want, n, has)
				}
				if ok && at == name {
					own++
				} else if ok {
					fromAbove++
				}
			}
		}
	}
	if own < 100 || fromAbove < 100 {
		t.Errorf("only %d and %d", own, fromAbove)
	}
}

// whole is a class that has some of each part; what may be shared there is.
func whole(name string) api.Class {
	slots := []string{"I", "?", "0", "LA;"}
	code := []byte{0, 0, 177, 177}
	marks := []api.Handler{{From: 0, To: 1, At: 2, Type: "E"}, {From: 1, To: 2, At: 2, Type: "F"}}
	frames := []api.Frame{{At: 1, Locals: slots, Stack: slots}, {At: 2, Locals: slots[1:], Stack: slots[:2]}, {At: 3}}
	return api.Class{
		Name: name, Super: "Thread",
		Pool:   []api.Const{{Kind: api.ConstInt, N: 5}, {Kind: api.ConstClass, Class: "A"}, {Kind: api.ConstInt, N: 6}},
		Fields: []api.Field{{Name: "f", Desc: "I"}, {Name: "g", Desc: "I", Static: true}, {Name: "h", Desc: "I"}},
		Methods: []api.Method{
			{Name: "m", Desc: "()V", Stack: 2, Locals: 4, Code: code, Handlers: marks, Frames: frames},
			{Name: "n", Desc: "()V", Static: true, Code: code[:2], Handlers: marks[:1], Frames: frames[:2]},
			{Name: "o", Desc: "()V", Code: []byte{}, Handlers: []api.Handler{}, Frames: []api.Frame{}},
		},
	}
}

func fill[T any](l []T, x T) {
	l = l[:cap(l)]
	for i := range l {
		l[i] = x
	}
}

func wipeMethod(m api.Method) {
	for _, f := range m.Frames {
		fill(f.Locals, "x")
		fill(f.Stack, "x")
	}
	fill(m.Code, 88)
	fill(m.Handlers, api.Handler{Type: "x"})
	fill(m.Frames, api.Frame{At: -1})
}

// wipe overwrites all lists of c, with their spare room.
func wipe(c api.Class) {
	for _, m := range c.Methods {
		wipeMethod(m)
	}
	fill(c.Pool, api.Const{Name: "x"})
	fill(c.Fields, api.Field{Name: "x"})
	fill(c.Methods, api.Method{Name: "x"})
}

// R2, R5: what is done to a class that was added, and to any answer, shows in no answer.
func TestNewMemory(t *testing.T) {
	c := whole("A")
	k, s := built(t, c), append(always(), whole("A"))
	wipe(c)
	mustTell(t, k, s)
	for _, name := range k.Names() {
		c, _ := k.Get(name)
		kept, _ := k.Get(name)
		wipe(c)
		if told(kept) != told(s[s.find(name)]) {
			t.Errorf("Get(%s): %+v", name, kept)
		}
		fill(k.Line(name), "x")
		for _, p := range parts(s) {
			_, m, _ := k.Method(name, p[0], p[1])
			wipeMethod(m)
		}
		fill(k.Names(), "x")
		mustTell(t, k, s)
	}
	mustTell(t, kin.New(), always())
	_ = append(k.Names(), "x")
	_ = append(k.Line("A"), "x")
	s, _ = mustAdd(t, k, s, whole("B"))
	mustTell(t, k, s)
}

// R2: a class that is handed in is left as it is, its spare room too, let by or refused.
func TestLeavesTheClass(t *testing.T) {
	c := whole("A")
	c.Pool = append(c.Pool, api.Const{Kind: 99})[:3]
	c.Fields = append(c.Fields, api.Field{Name: "spare"})[:3]
	c.Methods = append(c.Methods, api.Method{Name: "spare", Native: true})[:3]
	m := &c.Methods[0]
	m.Code = append(m.Code, 99)[:4]
	m.Handlers = append(m.Handlers, api.Handler{Type: "spare"})[:2]
	m.Frames = append(m.Frames, api.Frame{At: -99})[:3]
	room := func() string {
		return told(c, c.Pool[:4], c.Fields[:4], c.Methods[:4], m.Code[:5], m.Handlers[:3], m.Frames[:4])
	}
	want := room()
	k := kin.New()
	for _, why := range []api.Errno{api.OK, api.ErrTaken} {
		if got := k.Add(c); got != why || room() != want {
			t.Errorf("%v, %s, want %v, %s", got, room(), why, want)
		}
	}
	mustTell(t, k, append(always(), whole("A")))
}

// R2: no two lists of one answer share memory, though those of what was added do.
func TestListsShareNothing(t *testing.T) {
	k := built(t, whole("A"))
	c, _ := k.Get("A")
	want := whole("A")
	for n := range c.Methods {
		wipeMethod(c.Methods[n])
		c.Methods[n] = want.Methods[n]
		if told(c) != told(want) {
			t.Errorf("behind method %d: %+v", n, c)
		}
	}
	for n := range 2 {
		_, m, _ := k.Method("A", "m", "()V")
		fill(m.Frames[n].Locals, "x")
		m.Frames[n].Locals = want.Methods[0].Frames[n].Locals
		if told(m) != told(want.Methods[0]) {
			t.Errorf("behind the locals of frame %d: %+v", n, m)
		}
		fill(m.Frames[n].Stack, "x")
		m.Frames[n].Stack = want.Methods[0].Frames[n].Stack
		if told(m) != told(want.Methods[0]) {
			t.Errorf("behind the stack of frame %d: %+v", n, m)
		}
	}
}

// R2, R4: what one Kin is given another does not tell, and nil lists mean what empty ones do.
func TestTwoKins(t *testing.T) {
	one, two := kin.New(), kin.New()
	a := api.Class{Name: "A", Super: "Object", Pool: []api.Const{}, Fields: []api.Field{}, Methods: []api.Method{}}
	s, _ := mustAdd(t, one, always(), a)
	mustTell(t, one, append(always(), class("A", "Object")))
	mustTell(t, two, always())
	r, _ := mustAdd(t, two, always(), class("A", "Index"))
	mustTell(t, one, s)
	mustTell(t, two, r)
}
