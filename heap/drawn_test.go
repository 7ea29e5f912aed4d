package heap_test

import (
	"math"
	"math/rand"
	"slices"
	"testing"

	"carafe/api"
	"carafe/heap"
)

// pair is a heap, and what is said anew of it; what is done to both comes out of bytes.
type pair struct {
	t    *testing.T
	h    *heap.Heap
	s    *said
	data []byte
}

// next answers 0 where no bytes are left.
func (p *pair) next() int {
	if len(p.data) == 0 {
		return 0
	}
	n := int(p.data[0])
	p.data = p.data[1:]
	return n
}

// ref is mostly one of an object, now and then beside it.
func (p *pair) ref() int {
	n := p.next()
	all := p.s.all()
	if n%8 == 0 || len(all) == 0 {
		return p.next() - 8
	}
	return all[n/8%len(all)]
}

// value is a number of any size, or where an object may be.
func (p *pair) value() int64 {
	n := p.next()
	if n%4 == 0 {
		return []int64{0, -1, math.MaxInt64, math.MinInt64, 1 << 32, 1<<32 + 1, 2, -3}[n/4%8]
	}
	return int64(p.ref())
}

func (p *pair) agree(what string, got, want any) {
	p.t.Helper()
	if got != want {
		p.t.Fatalf("%s: %v, want %v", what, got, want)
	}
}

type answer struct {
	n   int64
	why api.Errno
}

func (p *pair) shape() {
	var refs []bool
	for range p.next() % 5 {
		refs = append(refs, p.next()%2 == 1)
	}
	p.agree("Shape", p.h.Shape(refs), p.s.shapeNumber(refs))
}

func (p *pair) object() {
	shape := p.next()%9 - 1
	n, why := p.h.Object(shape)
	m, no := p.s.object(shape)
	p.agree("Object", answer{int64(n), why}, answer{int64(m), no})
}

func (p *pair) array() {
	size, refs := p.next(), p.next()%2 == 1
	switch {
	case size < 4:
		size = []int{-1, 256, 257, -9}[size]
	default:
		size %= 12
	}
	n, why := p.h.Array(refs, size)
	m, no := p.s.array(refs, size)
	p.agree("Array", answer{int64(n), why}, answer{int64(m), no})
}

func (p *pair) set() {
	ref, n, v := p.ref(), p.next()%7-1, p.value()
	p.agree("Set", p.h.Set(ref, n, v), p.s.set(ref, n, v))
}

func (p *pair) setTag() {
	ref, v := p.ref(), p.value()
	p.agree("SetTag", p.h.SetTag(ref, v), p.s.setTag(ref, v))
}

// slide keeps some, with or without what they lead to, so that both answers come up.
func (p *pair) slide() {
	var keep []int
	every := p.next()%3 + 1
	for i, ref := range p.s.all() {
		if (i+every)%3 == 0 || p.next()%4 == 1 {
			keep = append(keep, ref)
		}
	}
	if every > 1 {
		keep = closed(p.s, keep)
	}
	if n := p.next(); n > 250 && len(keep) > 1 {
		keep[0], keep[1] = keep[1], keep[0]
	}
	to, why := p.h.Slide(keep)
	want, no := p.s.slide(keep)
	if !slices.Equal(to, want) || why != no {
		p.t.Fatalf("Slide(%v): %v, %v, want %v, %v", keep, to, why, want, no)
	}
}

// closed adds to keep what its fields lead to.
func closed(s *said, keep []int) []int {
	left := map[*thing]bool{}
	var l []*thing
	for _, ref := range keep {
		l = append(l, s.find(int64(ref)))
	}
	for len(l) > 0 {
		x := l[0]
		l = l[1:]
		if x != nil && !left[x] {
			left[x] = true
			l = append(l, x.other...)
		}
	}
	var all []int
	for x := range left {
		all = append(all, s.where(x))
	}
	slices.Sort(all)
	return all
}

// run does what the bytes say, and holds all that can be asked against what is said anew.
func run(t *testing.T, data []byte) {
	t.Helper()
	p := &pair{t: t, data: data}
	words := p.next()*2 + 1
	p.h, p.s = made(t, words), &said{most: words}
	for len(p.data) > 0 {
		switch n := p.next() % 32; {
		case n < 3:
			p.shape()
		case n < 9:
			p.object()
		case n < 13:
			p.array()
		case n < 27:
			p.set()
		case n < 30:
			p.setTag()
		default:
			p.slide()
		}
		if got, want := told(p.h), toldAnew(p.s); got != want {
			t.Fatalf("told\n%swant\n%s", got, want)
		}
	}
}

// P13.1, P13.2, P13.3, P13.4: calls that are drawn, one behind the other.
func TestDrawn(t *testing.T) {
	r := rand.New(rand.NewSource(13))
	for range 150 {
		data := make([]byte, 100+r.Intn(400))
		r.Read(data)
		run(t, data)
	}
}

// P13.1, P13.2, P13.3, P13.4: whatever calls come, it is told what the chapter says.
func FuzzHeap(f *testing.F) {
	r := rand.New(rand.NewSource(1))
	for range 20 {
		data := make([]byte, 200)
		r.Read(data)
		f.Add(data)
	}
	f.Fuzz(func(t *testing.T, data []byte) {
		run(t, data[:min(len(data), 1000)])
	})
}
