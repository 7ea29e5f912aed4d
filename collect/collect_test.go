package collect_test

import (
	"fmt"
	"math"
	"reflect"
	"slices"
	"testing"

	"carafe/api"
	"carafe/collect"
	"carafe/heap"
)

func made(t *testing.T, words int) *heap.Heap {
	t.Helper()
	h, why := heap.New(words)
	if why != api.OK {
		t.Fatalf("New(%d): %v", words, why)
	}
	return h
}

func array(t *testing.T, h *heap.Heap, refs bool, n int) int {
	t.Helper()
	ref, why := h.Array(refs, n)
	if why != api.OK {
		t.Fatalf("Array(%v, %d): %v", refs, n, why)
	}
	return ref
}

func object(t *testing.T, h *heap.Heap, refs ...bool) int {
	t.Helper()
	ref, why := h.Object(h.Shape(refs))
	if why != api.OK {
		t.Fatalf("Object of %v: %v", refs, why)
	}
	return ref
}

func set(t *testing.T, h *heap.Heap, ref, n int, v int64) {
	t.Helper()
	if why := h.Set(ref, n, v); why != api.OK {
		t.Fatalf("Set(%d, %d, %d): %v", ref, n, v, why)
	}
}

// six has a ring of two, an object that refers to itself and to the ring, one with numbers that look like references, an empty array, and an array that refers to two of them.
func six(t *testing.T) *heap.Heap {
	t.Helper()
	h := made(t, 100)
	object(t, h, true, false)        // 1
	object(t, h, false, true)        // 6
	array(t, h, true, 3)             // 11
	object(t, h, false, false, true) // 17
	array(t, h, true, 0)             // 23
	array(t, h, true, 4)             // 26
	set(t, h, 1, 0, 6)
	set(t, h, 1, 1, 17)
	set(t, h, 6, 1, 1)
	set(t, h, 6, 0, 23)
	set(t, h, 11, 0, 11)
	set(t, h, 11, 2, 6)
	set(t, h, 17, 0, 1)
	set(t, h, 17, 1, 26)
	set(t, h, 26, 1, 17)
	set(t, h, 26, 3, 23)
	for i, ref := range h.All() {
		h.SetTag(ref, int64(i)+10)
	}
	return h
}

// P14.1, P14.2, P14.3: the runs and the examples.
func TestRuns(t *testing.T) {
	h := six(t)
	if to, s, why := collect.Run(h, []int{}); len(to) > 0 || s.Live != 0 || s.Dead != 6 || s.Words != 0 || why != api.OK || h.Used() != 0 || len(h.All()) != 0 {
		t.Errorf("Run without roots: %v, %+v, %v; %v are left", to, s, why, h.All())
	}
	h = six(t)
	if to, s, why := collect.Run(h, []int{0}); !slices.Equal(to, []int{0}) || s.Live != 0 || s.Dead != 6 || why != api.OK || h.Used() != 0 {
		t.Errorf("Run of 0: %v, %+v, %v", to, s, why)
	}
	h = six(t)
	if to, s, why := collect.Run(h, []int{6}); !slices.Equal(to, []int{6}) || s.Live != 2 || s.Dead != 4 || s.Words != 10 || why != api.OK || !slices.Equal(h.All(), []int{1, 6}) {
		t.Errorf("Run of a ring: %v, %+v, %v; %v are left", to, s, why, h.All())
	}
	h = six(t)
	if to, _, why := collect.Run(h, []int{17, 17}); !slices.Equal(to, []int{1, 1}) || why != api.OK {
		t.Errorf("Run of the same root twice: %v, %v", to, why)
	}
	h = six(t)
	if !collect.Like(h, h.All(), h, h.All()) {
		t.Error("Like of a heap and itself")
	}
	if l, why := collect.Mark(nil, nil); len(l) > 0 || why != api.ErrArg {
		t.Errorf("Mark of nil: %v, %v", l, why)
	}
}

// P14.1: what is reached from each root, and how many words it has.
func TestMark(t *testing.T) {
	h := six(t)
	was := look(h)
	for _, x := range []struct {
		roots, want []int
		size        int
	}{
		{nil, nil, 0}, {[]int{}, nil, 0}, {[]int{0}, nil, 0}, {[]int{0, 0, 0}, nil, 0},
		{[]int{1}, []int{1, 6}, 10}, {[]int{6}, []int{1, 6}, 10}, {[]int{6, 1}, []int{1, 6}, 10}, {[]int{1, 1, 1}, []int{1, 6}, 10},
		{[]int{11}, []int{1, 6, 11}, 16}, {[]int{17}, []int{17}, 6}, {[]int{23}, []int{23}, 3}, {[]int{26}, []int{17, 23, 26}, 16},
		{[]int{23, 17, 0}, []int{17, 23}, 9}, {[]int{0, 23, 11}, []int{1, 6, 11, 23}, 19}, {[]int{26, 0, 11, 26}, []int{1, 6, 11, 17, 23, 26}, 32},
	} {
		l, why := collect.Mark(h, x.roots)
		if !slices.Equal(l, x.want) || why != api.OK {
			t.Errorf("Mark of %v: %v, %v, want %v", x.roots, l, why, x.want)
		}
		if n, why := collect.Size(h, x.roots); n != x.size || why != api.OK {
			t.Errorf("Size of %v: %d, %v, want %d", x.roots, n, why, x.size)
		}
	}
	if !reflect.DeepEqual(look(h), was) {
		t.Error("Mark or Size changed the heap")
	}
}

// P14.1, P14.2: nil, and roots that are neither 0 nor an object, wherever they stand; nothing is changed.
func TestRefused(t *testing.T) {
	none := made(t, 5)
	h := six(t)
	was := look(h)
	for _, ref := range []int{2, -1, 5, 7, 14, 25, 32, 33, 34, 100, 101, 1 << 40, math.MinInt, math.MaxInt, -6} {
		for _, roots := range [][]int{{ref}, {ref, 1}, {1, ref}, {0, 26, ref, 0}, {ref, ref}} {
			refused(t, h, roots)
			refused(t, none, roots)
		}
	}
	refused(t, none, []int{1})
	refused(t, none, []int{0, 1})
	for _, roots := range [][]int{nil, {0}, {1}} {
		refused(t, nil, roots)
	}
	if !reflect.DeepEqual(look(h), was) || none.Used() != 0 {
		t.Error("a call that was refused changed the heap")
	}
}

func refused(t *testing.T, h *heap.Heap, roots []int) {
	t.Helper()
	if l, why := collect.Mark(h, roots); len(l) > 0 || why != api.ErrArg {
		t.Errorf("Mark of %v: %v, %v", roots, l, why)
	}
	if n, why := collect.Size(h, roots); n != 0 || why != api.ErrArg {
		t.Errorf("Size of %v: %d, %v", roots, n, why)
	}
	if to, s, why := collect.Run(h, roots); len(to) > 0 || s != (collect.Stats{}) || why != api.ErrArg {
		t.Errorf("Run of %v: %v, %+v, %v", roots, to, s, why)
	}
}

// P14.2, P14.4: where what is left lies then, what it holds, and what is told of it.
func TestRun(t *testing.T) {
	h := six(t)
	to, s, why := collect.Run(h, []int{26, 0, 23, 17, 26})
	if !slices.Equal(to, []int{10, 0, 7, 1, 10}) || why != api.OK {
		t.Fatalf("Run: %v, %v", to, why)
	}
	if s.Live != 3 || s.Dead != 3 || s.Words != 16 || s.Steps < 0 || s.Steps > 8*(32+5)+8 {
		t.Errorf("Run: %+v", s)
	}
	want := said{
		{1, 2, 13, []field{{false, 1}, {false, 26}, {true, 0}}},
		{7, -2, 14, nil},
		{10, -2, 15, []field{{true, 0}, {true, 1}, {true, 0}, {true, 7}}},
	}
	if is := look(h); !reflect.DeepEqual(is, want) {
		t.Errorf("left are %v, want %v", is, want)
	}
	if !collect.Like(h, to, six(t), []int{26, 0, 23, 17, 26}) {
		t.Error("the heap is not Like it was")
	}
	again, s, why := collect.Run(h, to)
	if !slices.Equal(again, to) || s.Live != 3 || s.Dead != 0 || s.Words != 16 || why != api.OK || !reflect.DeepEqual(look(h), want) {
		t.Errorf("again: %v, %+v, %v, %v", again, s, why, look(h))
	}
}

// P14.2: each set of roots, in a heap of which all is reached by some.
func TestRunOfEachSet(t *testing.T) {
	all := six(t).All()
	for bits := range 1 << len(all) {
		var roots []int
		for i := range all {
			if ref := all[len(all)-1-i]; bits>>i&1 == 1 {
				roots = append(roots, ref)
			}
		}
		hold(t, six(t), roots)
	}
}

// hold compares all that is answered of a heap and roots with what is said anew; the heap is collected behind it.
func hold(t *testing.T, h *heap.Heap, roots []int) {
	t.Helper()
	s := look(h)
	if !s.allowed(roots) {
		refused(t, h, roots)
		if !reflect.DeepEqual(look(h), s) {
			t.Fatalf("%v were refused, and the heap is another one", roots)
		}
		return
	}
	want := s.reached(roots)
	l, why := collect.Mark(h, roots)
	size, also := collect.Size(h, roots)
	if !slices.Equal(l, want) || why != api.OK || size != s.size(want) || also != api.OK {
		t.Fatalf("Mark of %v: %v, %v, Size %d, %v, want %v, %d", roots, l, why, size, also, want, s.size(want))
	}
	was, from := copied(t, h, roots)
	left, places := s.slid(want)
	var where []int
	for _, ref := range roots {
		where = append(where, places[ref])
	}
	most := 8*(h.Used()+len(roots)) + 8
	for round := range 2 {
		to, told, why := collect.Run(h, roots)
		if !slices.Equal(to, where) || why != api.OK || !reflect.DeepEqual(look(h), left) {
			t.Fatalf("Run of %v: %v, %v, want %v; left are %v, want %v", roots, to, why, where, look(h), left)
		}
		if told.Live != len(left) || told.Dead != len(s)-len(left) || told.Words != size || told.Steps < 0 || told.Steps > most || h.Used() != size {
			t.Fatalf("Run of %v (round %d): %+v", roots, round, told)
		}
		if !collect.Like(h, to, was, from) || !collect.Like(was, from, h, to) {
			t.Fatalf("Run of %v (round %d): not Like it was", roots, round)
		}
		roots, s, most = to, left, 8*(size+len(to))+8
	}
}

// copied is a heap with the same in it.
func copied(t *testing.T, h *heap.Heap, roots []int) (*heap.Heap, []int) {
	t.Helper()
	s := look(h)
	shapes := map[int][]bool{}
	most := -1
	for _, x := range s {
		var refs []bool
		for _, f := range x.fields {
			refs = append(refs, f.ref)
		}
		shapes[x.shape] = refs
		most = max(most, x.shape)
	}
	g := made(t, h.Words())
	for n := range most + 1 {
		refs, used := shapes[n]
		if !used { // any that nobody else has
			refs = make([]bool, 1000+n)
		}
		if g.Shape(refs) != n {
			t.Fatalf("Shape of %v is not %d", refs, n)
		}
	}
	to := map[int]int{0: 0}
	for _, x := range s {
		to[x.at] = makeThing(t, g, x)
	}
	fill(t, g, s, to)
	var from []int
	for _, ref := range roots {
		from = append(from, to[ref])
	}
	return g, from
}

func makeThing(t *testing.T, h *heap.Heap, x thing) int {
	t.Helper()
	if x.shape < 0 {
		return array(t, h, x.shape == -2, len(x.fields))
	}
	ref, why := h.Object(x.shape)
	if why != api.OK {
		t.Fatalf("Object(%d): %v", x.shape, why)
	}
	return ref
}

// fill gives tags and fields to things that are at to.
func fill(t *testing.T, h *heap.Heap, s said, to map[int]int) {
	t.Helper()
	for _, x := range s {
		h.SetTag(to[x.at], x.tag)
		for n, f := range x.fields {
			if f.ref {
				f.v = int64(to[int(f.v)])
			}
			set(t, h, to[x.at], n, f.v)
		}
	}
}

// P14.2: what is gone gives its room back, and shapes stay.
func TestRoomAgain(t *testing.T) {
	h := six(t)
	if _, why := h.Array(false, 66); why != api.ErrFull {
		t.Fatalf("the heap has room: %v", why)
	}
	if _, _, why := collect.Run(h, []int{1}); why != api.OK {
		t.Fatal(why)
	}
	if ref := array(t, h, true, 87); ref != 11 {
		t.Errorf("Array behind Run: %d", ref)
	}
	for n := range 87 {
		if v, why := h.Get(11, n); v != 0 || why != api.OK {
			t.Errorf("Get(11, %d): %d, %v", n, v, why)
		}
	}
	if _, why := h.Array(true, 0); why != api.ErrFull {
		t.Errorf("Array in a full heap: %v", why)
	}
	if h.Shape([]bool{true, false}) != 0 || h.Shape([]bool{false, false, true}) != 2 || h.Shape([]bool{true}) != 3 {
		t.Error("shapes are other ones")
	}
}

// P14.2, W4: no more steps than words and roots some times over, in heaps that are full: of empty arrays, of a chain each way, of arrays that all refer to all, of numbers.
func TestSteps(t *testing.T) {
	for _, x := range []struct {
		name  string
		refs  bool
		size  int
		field func(all []int, i, n int) int64
	}{
		{"empty", true, 0, nil},
		{"numbers", false, 256, func(all []int, i, n int) int64 { return int64(i*n - 70) }},
		{"nulls", true, 256, func(all []int, i, n int) int64 { return 0 }},
		{"down", true, 1, func(all []int, i, n int) int64 { return int64(all[max(0, i-1)]) }},
		{"up", true, 1, func(all []int, i, n int) int64 { return int64(all[min(i+1, len(all)-1)]) }},
		{"ring", true, 2, func(all []int, i, n int) int64 { return int64(all[(i+1+n*(len(all)-2))%len(all)]) }},
		{"all", true, 256, func(all []int, i, n int) int64 { return int64(all[n%len(all)]) }},
	} {
		for _, times := range []int{0, 1, 2, 100} {
			h := made(t, api.MaxWords)
			for h.Used()+3+x.size <= h.Words() {
				array(t, h, x.refs, x.size)
			}
			all := h.All()
			for i, ref := range all {
				for n := range x.size {
					set(t, h, ref, n, x.field(all, i, n))
				}
			}
			used := h.Used()
			for _, some := range [][]int{all, all[:1], all[len(all)-1:], {0}, {0, 0, all[len(all)/2]}} {
				roots := slices.Repeat(some, times)
				live, _ := collect.Mark(h, roots)
				size, _ := collect.Size(h, roots)
				if size != len(live)*(3+x.size) {
					t.Errorf("%s: Size %d of %d", x.name, size, len(live))
				}
				g, from := copied(t, h, roots)
				_, s, why := collect.Run(g, from)
				if why != api.OK || s.Live != len(live) || s.Dead != len(all)-len(live) || s.Words != size || s.Steps < 0 || s.Steps > 8*(used+len(roots))+8 {
					t.Errorf("%s: Run of %d roots: %+v, %v", x.name, len(roots), s, why)
				}
			}
		}
	}
}

// P14.1, P14.3: the longest chain there can be, from its one end and from its other.
func TestChain(t *testing.T) {
	h := made(t, api.MaxWords)
	g := made(t, api.MaxWords)
	const long = api.MaxWords / 4
	for i := range long {
		array(t, h, true, 1)
		array(t, g, true, 1)
		if i > 0 {
			set(t, h, i*4+1, 0, int64(i*4-3))
			set(t, g, i*4-3, 0, int64(i*4+1))
		}
	}
	last := long*4 - 3
	if l, why := collect.Mark(h, []int{last}); why != api.OK || !slices.Equal(l, h.All()) {
		t.Errorf("Mark: %d, %v", len(l), why)
	}
	if n, why := collect.Size(g, []int{5}); n != api.MaxWords-4 || why != api.OK {
		t.Errorf("Size: %d, %v", n, why)
	}
	if !collect.Like(h, []int{last}, g, []int{1}) || collect.Like(h, []int{last}, g, []int{5}) || collect.Like(h, []int{last - 4}, g, []int{1}) || !collect.Like(h, []int{last - 4}, g, []int{5}) {
		t.Error("Like of chains")
	}
	set(t, g, last, 0, 1)
	if collect.Like(h, []int{last}, g, []int{1}) || collect.Like(g, []int{1}, h, []int{last}) {
		t.Error("Like of a chain and a ring")
	}
	set(t, h, 1, 0, int64(last))
	if !collect.Like(h, []int{5}, g, []int{9}) {
		t.Error("Like of rings")
	}
	for _, to := range []int64{1, 5} { // one more step, and the ring is another one
		set(t, g, last, 0, to)
		if collect.Like(h, []int{last}, g, []int{1}) != (to == 1) {
			t.Errorf("Like of a ring that closes at %d", to)
		}
	}
	if to, s, why := collect.Run(h, []int{9, last}); fmt.Sprint(to) != fmt.Sprint([]int{9, last}) || s.Live != long || s.Dead != 0 || why != api.OK {
		t.Errorf("Run: %v, %+v, %v", to, s, why)
	}
}
