package loader_test

import (
	"fmt"
	"math/rand"
	"testing"

	"carafe/api"
	"carafe/loader"
)

// source gives out bytes, and 0 where none are left.
type source []byte

func (s *source) below(n int) int {
	if len(*s) == 0 {
		return 0
	}
	b := int((*s)[0])
	*s = (*s)[1:]
	return b % n
}

// name is now and then none.
func (s *source) name() string {
	n := s.below(64)
	if n > 1 {
		return string(rune('A' + n%4))
	}
	return []string{"?", ""}[n]
}

// super is in half of all cases none.
func (s *source) super() string {
	if s.below(2) == 0 {
		return ""
	}
	return s.name()
}

// loader is now and then none of these.
func (s *source) loader(of int) int {
	if s.below(30) == 1 {
		return s.below(2)*(of+1) - 1
	}
	return s.below(of)
}

// both is what the program and what is said anew make of the same calls.
type both struct {
	t     *testing.T
	l     *loader.Loaders
	s     *said
	calls string
	whys  map[api.Errno]int
}

func (b *both) hold(call string, got, want any, why api.Errno) {
	b.t.Helper()
	b.calls += call + "\n"
	b.whys[why]++
	if got != want {
		b.t.Fatalf("%sanswered %v; must be %v; %s", b.calls, got, want, b.s.told())
	}
}

type answer struct {
	n, by int
	why   api.Errno
}

// call makes one call that is drawn.
func (b *both) call(s *source) {
	n, m := s.loader(len(b.s.above)+1), s.loader(len(b.s.above)+1)
	name := s.name()
	switch s.below(12) {
	case 0:
		got, why := b.l.Child(n)
		want, whyNot := b.s.child(n)
		b.hold(fmt.Sprint("Child ", n), answer{got, 0, why}, answer{want, 0, whyNot}, why)
	case 1, 2, 3:
		if n == 0 { // from whom all others have what it offers
			n = m
		}
		super, id := s.super(), s.below(16)%4-s.below(16)/15
		why := b.l.Offer(n, name, super, id)
		b.hold(fmt.Sprint("Offer ", n, name, super, id), why, b.s.offer(n, name, super, id), why)
	case 4, 5, 6, 7:
		why := b.l.Agree(n, m, name)
		b.hold(fmt.Sprint("Agree ", n, m, name), why, b.s.agree(n, m, name), why)
	default:
		id, by, why := b.l.Load(n, name)
		h, whyNot := b.s.load(n, name)
		b.hold(fmt.Sprint("Load ", n, name), answer{id, by, why}, answer{h.id, h.by, whyNot}, why)
	}
	b.look()
}

// look asks what each has loaded: a name stays as it was loaded once, and those that agree say the same.
func (b *both) look() {
	b.t.Helper()
	for n := -1; n < len(b.s.above)+2; n++ {
		for _, name := range []string{"A", "B", "C", "D", "?", ""} {
			id, ok := b.l.Loaded(n, name)
			h, has := b.s.have[key{n, name}]
			if id != h.id || ok != has {
				b.t.Fatalf("%sLoaded(%d, %s): %d, %v; %s", b.calls, n, name, id, ok, b.s.told())
			}
		}
	}
	for _, p := range b.s.pacts {
		one, ok := b.l.Loaded(p.a, p.name)
		other, is := b.l.Loaded(p.b, p.name)
		if ok && is && one != other {
			b.t.Fatalf("%s%v: %d and %d", b.calls, p, one, other)
		}
	}
}

func run(t *testing.T, data []byte, whys map[api.Errno]int) {
	s := (*source)(&data)
	b := &both{t: t, l: loader.New(), s: saidNew(), whys: whys}
	for range s.below(9) {
		n := s.below(len(b.s.above)+1) * s.below(2)
		b.l.Child(n)
		b.s.child(n)
	}
	was := map[key]had{}
	for len(*s) > 0 {
		b.call(s)
		for k, h := range was {
			if id, by, why := b.l.Load(k.n, k.name); id != h.id || by != h.by || why != api.OK {
				t.Fatalf("%sLoad(%v): %d, %d, %v; it was %v", b.calls, k, id, by, why, h)
			}
		}
		for k, h := range b.s.have {
			was[k] = h
		}
	}
}

// P15.1, P15.2, P15.3, P15.4, W7: calls that are drawn, each refusal among them.
func TestDrawn(t *testing.T) {
	r := rand.New(rand.NewSource(15))
	whys := map[api.Errno]int{}
	for range 1500 {
		data := make([]byte, 600)
		r.Read(data)
		run(t, data, whys)
	}
	for _, why := range []api.Errno{api.OK, api.ErrArg, api.ErrTaken, api.ErrNone, api.ErrCircle, api.ErrBound} {
		if whys[why] < 100 {
			t.Errorf("%v is met %d times", why, whys[why])
		}
	}
}

// P15.1, P15.2, P15.3, P15.4, W7: whatever calls come, it is told what the chapter says.
func FuzzLoader(f *testing.F) {
	r := rand.New(rand.NewSource(1))
	for range 30 {
		data := make([]byte, 200)
		r.Read(data)
		f.Add(data)
	}
	f.Fuzz(func(t *testing.T, data []byte) {
		run(t, data[:min(len(data), 500)], map[api.Errno]int{})
	})
}
