package collect_test

import (
	"math"
	"reflect"
	"testing"

	"carafe/api"
	"carafe/collect"
	"carafe/heap"
)

// likes holds that Like answers want, whichever side comes first.
func likes(t *testing.T, what string, a *heap.Heap, ra []int, b *heap.Heap, rb []int, want bool) {
	t.Helper()
	if collect.Like(a, ra, b, rb) != want || collect.Like(b, rb, a, ra) != want {
		t.Errorf("%s: Like of %v and %v: %v, %v, want %v", what, ra, rb, collect.Like(a, ra, b, rb), collect.Like(b, rb, a, ra), want)
	}
}

// P14.3: whatever one change is made to what is reached is seen; what is not reached may be as it likes.
func TestLikeOneChange(t *testing.T) {
	for _, x := range []struct {
		what   string
		change func(h *heap.Heap)
		want   bool
	}{
		{"nothing", func(h *heap.Heap) {}, true},
		{"tag of a root", func(h *heap.Heap) { h.SetTag(26, 1) }, false},
		{"tag of one that is reached", func(h *heap.Heap) { h.SetTag(23, -14) }, false},
		{"a first number", func(h *heap.Heap) { h.Set(17, 0, 2) }, false},
		{"a second number", func(h *heap.Heap) { h.Set(17, 1, math.MinInt64) }, false},
		{"an object instead of null", func(h *heap.Heap) { h.Set(17, 2, 17) }, false},
		{"a first field that was null", func(h *heap.Heap) { h.Set(26, 0, 17) }, false},
		{"null instead of an object", func(h *heap.Heap) { h.Set(26, 3, 0) }, false},
		{"another object", func(h *heap.Heap) { h.Set(26, 3, 17) }, false},
		{"two that change places", func(h *heap.Heap) { h.Set(26, 1, 23); h.Set(26, 3, 17) }, false},
		{"one that goes over to its neighbour", func(h *heap.Heap) { h.Set(26, 3, 0); h.Set(26, 2, 23) }, false},
		{"a tag that is not reached", func(h *heap.Heap) { h.SetTag(1, 99) }, true},
		{"a number that is not reached", func(h *heap.Heap) { h.Set(6, 0, 99) }, true},
		{"a reference that is not reached", func(h *heap.Heap) { h.Set(11, 1, 26) }, true},
		{"one more object", func(h *heap.Heap) { h.Array(true, 3) }, true},
		{"one more shape", func(h *heap.Heap) { h.Shape([]bool{true}) }, true},
		{"all that is not reached gone", func(h *heap.Heap) { h.Slide([]int{17, 23, 26}) }, true},
	} {
		h, g := six(t), six(t)
		x.change(g)
		root := 26
		if len(g.All()) == 3 {
			root = 10
		}
		likes(t, x.what, h, []int{26}, g, []int{root}, x.want)
	}
}

// P14.3: an object beside one of another kind, with a field each.
func TestLikeKinds(t *testing.T) {
	makes := []func(h *heap.Heap) (int, api.Errno){
		func(h *heap.Heap) (int, api.Errno) { return h.Array(false, 0) },
		func(h *heap.Heap) (int, api.Errno) { return h.Array(true, 0) },
		func(h *heap.Heap) (int, api.Errno) { return h.Array(false, 1) },
		func(h *heap.Heap) (int, api.Errno) { return h.Array(true, 1) },
		func(h *heap.Heap) (int, api.Errno) { return h.Array(false, 2) },
		func(h *heap.Heap) (int, api.Errno) { return h.Array(true, 2) },
		func(h *heap.Heap) (int, api.Errno) { return h.Object(0) },
		func(h *heap.Heap) (int, api.Errno) { return h.Object(1) },
		func(h *heap.Heap) (int, api.Errno) { return h.Object(2) },
	}
	for i, one := range makes {
		for k, other := range makes {
			a, b := made(t, 30), made(t, 30)
			for _, h := range []*heap.Heap{a, b} {
				h.Shape(nil)
				h.Shape([]bool{true})
				h.Shape([]bool{false})
			}
			b.Array(true, 5)
			x, _ := one(a)
			y, _ := other(b)
			likes(t, "kinds", a, []int{x}, b, []int{y}, i == k)
			p, q := array(t, a, true, 1), array(t, b, true, 1)
			set(t, a, p, 0, int64(x))
			set(t, b, q, 0, int64(y))
			likes(t, "kinds, one step away", a, []int{p}, b, []int{q}, i == k)
		}
	}
}

// P14.3: shapes go by their numbers, and by what their fields are.
func TestLikeShapes(t *testing.T) {
	a, b := made(t, 50), made(t, 50)
	b.Shape([]bool{false, false})
	x, y := object(t, a, true), object(t, b, true)
	likes(t, "the same fields, other numbers", a, []int{x}, b, []int{y}, false)

	a, b = made(t, 50), made(t, 50)
	x, y = object(t, a, true), object(t, b, false)
	likes(t, "null beside the number 0", a, []int{x}, b, []int{y}, false)
	set(t, a, x, 0, int64(x))
	set(t, b, y, 0, int64(y))
	likes(t, "a reference beside the number that it is", a, []int{x}, b, []int{y}, false)

	a, b = made(t, 50), made(t, 50)
	x, y = object(t, a, true, false), object(t, b, false, true)
	likes(t, "the same number, other fields", a, []int{x}, b, []int{y}, false)

	a, b = made(t, 50), made(t, 50)
	x, y = object(t, a, false, true), object(t, b, false)
	likes(t, "the same number, another length", a, []int{x}, b, []int{y}, false)
}

// P14.3: two are not put beside one, whichever side they stand on, and whether by roots or by fields.
func TestLikeTwoBesideOne(t *testing.T) {
	h := made(t, 100)
	x, y := array(t, h, false, 1), array(t, h, false, 1)
	both, same := array(t, h, true, 2), array(t, h, true, 2)
	set(t, h, both, 0, int64(x))
	set(t, h, both, 1, int64(y))
	set(t, h, same, 0, int64(x))
	set(t, h, same, 1, int64(x))
	likes(t, "roots", h, []int{x, y}, h, []int{x, x}, false)
	likes(t, "roots the other way round", h, []int{x, y}, h, []int{y, x}, true)
	likes(t, "roots and null", h, []int{x, 0}, h, []int{x, x}, false)
	likes(t, "fields", h, []int{both}, h, []int{same}, false)
	likes(t, "a root and a field", h, []int{x, both}, h, []int{y, both}, false)
	likes(t, "a root and a field, the field first", h, []int{both, y}, h, []int{both, x}, false)
	likes(t, "a root that the fields have, too", h, []int{both, x, y}, h, []int{both, x, y}, true)
	one, two := array(t, h, true, 1), array(t, h, true, 1)
	loop := array(t, h, true, 1)
	set(t, h, one, 0, int64(two))
	set(t, h, two, 0, int64(one))
	set(t, h, loop, 0, int64(loop))
	likes(t, "a ring of two beside a ring of one", h, []int{one}, h, []int{loop}, false)
	likes(t, "a ring of two, from either", h, []int{one}, h, []int{two}, true)
	likes(t, "a ring of two, from both", h, []int{one, two, one}, h, []int{two, one, two}, true)
	likes(t, "a ring of two beside a ring of one, from both", h, []int{one, two}, h, []int{loop, loop}, false)
}

// P14.3: roots in their order, 0 beside 0, and lists and heaps that may not be.
func TestLikeRoots(t *testing.T) {
	h, g := six(t), six(t)
	none := made(t, 3)
	for _, x := range []struct {
		a    *heap.Heap
		ra   []int
		b    *heap.Heap
		rb   []int
		want bool
	}{
		{h, nil, g, nil, true}, {h, nil, g, []int{}, true}, {h, nil, none, nil, true}, {h, []int{0}, none, []int{0}, true}, {h, []int{0, 0}, none, []int{0, 0}, true},
		{h, []int{1, 0, 26}, g, []int{1, 0, 26}, true}, {h, []int{1, 0, 26}, g, []int{0, 1, 26}, false}, {h, []int{1, 26}, g, []int{26, 1}, false}, {h, []int{17, 17, 23}, g, []int{17, 17, 23}, true}, {h, []int{17, 17, 23}, g, []int{17, 23, 23}, false},
		{h, []int{0}, g, []int{1}, false}, {h, []int{23, 0}, g, []int{23, 23}, false}, {h, []int{23}, g, []int{1}, false},
		{h, []int{0}, g, nil, false}, {h, []int{1}, g, nil, false}, {h, []int{1, 1}, g, []int{1}, false}, {h, []int{1, 6}, g, []int{1}, false}, {h, []int{0, 0}, g, []int{0}, false},
		{h, []int{2}, g, []int{2}, false}, {h, []int{-1}, g, []int{-1}, false}, {h, []int{1, 2}, g, []int{1, 2}, false}, {h, []int{1, -1}, g, []int{1, -1}, false}, {h, []int{33}, g, []int{33}, false}, {h, []int{1, math.MaxInt}, g, []int{1, math.MaxInt}, false}, {h, []int{math.MinInt}, g, []int{math.MinInt}, false},
		{h, []int{2}, g, []int{1}, false}, {h, []int{0}, g, []int{-1}, false}, {none, []int{1}, g, []int{1}, false}, {none, []int{1}, none, []int{1}, false}, {h, []int{1, 6, 2}, g, []int{1, 6, 11}, false},
		{nil, nil, g, nil, false}, {nil, nil, nil, nil, false}, {nil, []int{0}, g, []int{0}, false}, {nil, []int{1}, nil, []int{1}, false}, {nil, []int{0}, nil, []int{0}, false},
	} {
		likes(t, "roots", x.a, x.ra, x.b, x.rb, x.want)
	}
	if !reflect.DeepEqual(look(h), look(six(t))) || !reflect.DeepEqual(look(g), look(six(t))) {
		t.Error("Like changed a heap")
	}
}

// P14.3: of one heap, parts that are alike are alike, and those that share are.
func TestLikeOfOneHeap(t *testing.T) {
	h := made(t, 200)
	var tops [3]int
	for i := range tops {
		x, y := object(t, h, true, false), array(t, h, true, 1)
		set(t, h, x, 0, int64(y))
		set(t, h, x, 1, int64(i/2))
		set(t, h, y, 0, int64(x))
		tops[i] = x
	}
	likes(t, "two alike", h, tops[:1], h, tops[1:2], true)
	likes(t, "two unlike", h, tops[:1], h, tops[2:], false)
	likes(t, "a pair, turned", h, []int{tops[0], tops[1]}, h, []int{tops[1], tops[0]}, true)
	likes(t, "a pair, one of it twice", h, []int{tops[0], tops[1]}, h, []int{tops[1], tops[1]}, false)
	share := array(t, h, true, 2)
	set(t, h, share, 0, int64(tops[0]))
	set(t, h, share, 1, int64(tops[1]))
	likes(t, "one that leads to both, beside itself", h, []int{share, tops[0]}, h, []int{share, tops[0]}, true)
	likes(t, "one that leads to both, beside itself turned", h, []int{share, tops[0]}, h, []int{share, tops[1]}, false)
}
