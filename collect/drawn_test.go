package collect_test

import (
	"math/rand"
	"testing"

	"carafe/collect"
	"carafe/heap"
)

// source gives out bytes, and 0 where none are left.
type source []byte

func (s *source) below(n int) int {
	if len(*s) == 0 {
		return 0
	}
	b := int((*s)[0])
	*s = (*s)[1:]
	return b % n
}

func shapes(h *heap.Heap) {
	h.Shape([]bool{true, false})
	h.Shape([]bool{true, true, true})
	h.Shape(nil)
	h.Shape([]bool{false})
}

// drawn is a heap with up to most objects; numbers and tags are few, so that many objects are alike.
func drawn(t *testing.T, s *source, most int) *heap.Heap {
	t.Helper()
	h := made(t, 1000)
	shapes(h)
	for range s.below(most + 1) {
		switch n := s.below(9); {
		case n < 5:
			h.Object([]int{0, 0, 1, 2, 3}[n])
		default:
			h.Array(n > 6, s.below(4))
		}
	}
	all := h.All()
	for _, ref := range all {
		h.SetTag(ref, []int64{0, 0, 0, 1}[s.below(4)])
		for n := range h.Len(ref) {
			change(h, s, ref, n)
		}
	}
	return h
}

// change sets a field to null or an object, or to a number.
func change(h *heap.Heap, s *source, ref, n int) {
	all := append(h.All(), 0)
	v := int64(s.below(3) * 4 / 3)
	if h.IsRef(ref, n) {
		v = int64(all[s.below(len(all))])
	}
	h.Set(ref, n, v)
}

// twin is the same heap in another order, with more objects between.
func twin(t *testing.T, s *source, h *heap.Heap, roots []int) (*heap.Heap, []int) {
	t.Helper()
	g := made(t, 1000)
	shapes(g)
	all := look(h)
	to := map[int]int{0: 0}
	for left := all; len(left) > 0; {
		i := s.below(len(left))
		if s.below(4) == 1 {
			array(t, g, true, s.below(3))
		}
		to[left[i].at] = makeThing(t, g, left[i])
		left = append(append(said{}, left[:i]...), left[i+1:]...)
	}
	fill(t, g, all, to)
	var from []int
	for _, ref := range roots {
		from = append(from, to[ref])
	}
	return g, from
}

// someRoots are objects and null, now and then something else.
func someRoots(h *heap.Heap, s *source) []int {
	all := append(h.All(), 0)
	var roots []int
	for range s.below(5) {
		if s.below(40) == 1 {
			roots = append(roots, s.below(20)-5)
			continue
		}
		roots = append(roots, all[s.below(len(all))])
	}
	return roots
}

// some changes one thing or none.
func some(h *heap.Heap, s *source, roots []int) {
	all := h.All()
	if len(all) == 0 {
		return
	}
	ref := all[s.below(len(all))]
	switch n := s.below(8); {
	case n == 1 && len(roots) > 0:
		roots[s.below(len(roots))] = ref
	case n == 2:
		h.SetTag(ref, 1)
	case n > 4 && h.Len(ref) > 0:
		change(h, s, ref, s.below(h.Len(ref)))
	}
}

// run holds two heaps, drawn out of bytes, against each other, and each against what is said anew; it tells whether they were alike.
func run(t *testing.T, data []byte, most int) bool {
	t.Helper()
	s := (*source)(&data)
	h := drawn(t, s, most)
	roots := someRoots(h, s)
	g, from := drawn(t, s, most), []int(nil)
	if s.below(5) == 1 {
		from = someRoots(g, s)
	} else {
		g, from = twin(t, s, h, roots)
		some(g, s, from)
	}
	a, b := look(h), look(g)
	want := len(roots) == len(from) && a.allowed(roots) && b.allowed(from) && a.text(roots) == b.text(from)
	likes(t, "drawn", h, roots, g, from, want)
	if len(a) <= 5 && len(b) <= 7 && tried(a, roots, b, from) != want {
		t.Fatalf("%v and %v, %v and %v: tried %v, by their text %v", a, roots, b, from, !want, want)
	}
	hold(t, h, roots)
	hold(t, g, from)
	return want && len(a.reached(roots)) > 1
}

// P14.1, P14.2, P14.3, P14.4: heaps and roots that are drawn, small ones and greater ones.
func TestDrawn(t *testing.T) {
	r := rand.New(rand.NewSource(14))
	var alike, unlike int
	for i := range 4000 {
		data := make([]byte, 600)
		r.Read(data)
		if run(t, data, 4+i%2*16) {
			alike++
		} else {
			unlike++
		}
	}
	if alike < 500 || unlike < 500 {
		t.Errorf("%d alike, %d unlike", alike, unlike)
	}
}

// W2, P14.3, P14.4: whenever a heap is collected on the way, it ends Like one that never is.
func TestWhenever(t *testing.T) {
	for seed := range int64(200) {
		r := rand.New(rand.NewSource(seed))
		h, g := made(t, 4000), made(t, 4000)
		shapes(h)
		shapes(g)
		rh, rg := make([]int, 4), make([]int, 4)
		for range 300 {
			n, shape := r.Intn(4), r.Intn(4)
			x, _ := h.Object(shape)
			y, _ := g.Object(shape)
			v := r.Int63()
			h.SetTag(x, v)
			g.SetTag(y, v)
			if shape < 2 {
				h.Set(x, 0, int64(rh[n]))
				g.Set(y, 0, int64(rg[n]))
			}
			if m := r.Intn(4); shape == 1 {
				h.Set(x, 2, int64(rh[m]))
				g.Set(y, 2, int64(rg[m]))
			}
			n = r.Intn(4)
			rh[n], rg[n] = x, y
			if r.Intn(8) == 0 {
				rg, _, _ = collect.Run(g, rg)
			}
		}
		likes(t, "collected on the way", h, rh, g, rg, true)
		rg[r.Intn(4)] = 0
		likes(t, "and a root is gone", h, rh, g, rg, false)
	}
}

// P14.1, P14.2, P14.3, P14.4: whatever heaps and roots come, it is told what the chapter says.
func FuzzCollect(f *testing.F) {
	r := rand.New(rand.NewSource(1))
	for range 30 {
		data := make([]byte, 300)
		r.Read(data)
		f.Add(data)
	}
	f.Fuzz(func(t *testing.T, data []byte) {
		data = data[:min(len(data), 1000)]
		run(t, data, 4+len(data)%2*16)
	})
}
