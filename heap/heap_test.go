package heap_test

import (
	"fmt"
	"math"
	"math/rand"
	"slices"
	"strings"
	"testing"

	"carafe/api"
	"carafe/heap"
)

func made(t *testing.T, words int) *heap.Heap {
	t.Helper()
	h, why := heap.New(words)
	if h == nil || why != api.OK {
		t.Fatalf("New(%d): %v, %v", words, h, why)
	}
	return h
}

func mustObject(t *testing.T, h *heap.Heap, shape, want int) {
	t.Helper()
	if ref, why := h.Object(shape); ref != want || why != api.OK {
		t.Fatalf("Object(%d): %d, %v, want %d", shape, ref, why, want)
	}
}

func mustArray(t *testing.T, h *heap.Heap, refs bool, n, want int) {
	t.Helper()
	if ref, why := h.Array(refs, n); ref != want || why != api.OK {
		t.Fatalf("Array(%v, %d): %d, %v, want %d", refs, n, ref, why, want)
	}
}

func mustSet(t *testing.T, h *heap.Heap, ref, n int, v int64) {
	t.Helper()
	if why := h.Set(ref, n, v); why != api.OK {
		t.Fatalf("Set(%d, %d, %d): %v", ref, n, v, why)
	}
}

func mustGet(t *testing.T, h *heap.Heap, ref, n int, want int64) {
	t.Helper()
	if v, why := h.Get(ref, n); v != want || why != api.OK {
		t.Errorf("Get(%d, %d): %d, %v, want %d", ref, n, v, why, want)
	}
}

// refused holds that a call answered why, and that the heap is as it was.
func refused(t *testing.T, h *heap.Heap, want api.Errno, what string, call func() (int, api.Errno)) {
	t.Helper()
	was := told(h)
	if n, why := call(); n != 0 || why != want {
		t.Errorf("%s: %d, %v, want %v", what, n, why, want)
	}
	if is := told(h); is != was {
		t.Errorf("%s changed the heap from\n%sto\n%s", what, was, is)
	}
}

// told is all that can be asked of a heap, around its objects too.
func told(h *heap.Heap) string {
	var b strings.Builder
	fmt.Fprintln(&b, h.Words(), h.Used(), h.All())
	for ref := -2; ref <= h.Used()+4; ref++ {
		fmt.Fprint(&b, ref, " ", h.ShapeOf(ref), h.Len(ref), h.Tag(ref), ":")
		for n := -1; n <= h.Len(ref); n++ {
			v, why := h.Get(ref, n)
			fmt.Fprint(&b, " ", v, int(why), h.IsRef(ref, n))
		}
		b.WriteByte('\n')
	}
	return b.String()
}

// toldAnew is told, of what is said anew.
func toldAnew(s *said) string {
	var b strings.Builder
	fmt.Fprintln(&b, s.most, s.used(), s.all())
	for ref := -2; ref <= s.used()+4; ref++ {
		fmt.Fprint(&b, ref, " ", s.shapeOf(ref), s.size(ref), s.tag(ref), ":")
		for n := -1; n <= s.size(ref); n++ {
			v, why := s.get(ref, n)
			fmt.Fprint(&b, " ", v, int(why), s.isRef(ref, n))
		}
		b.WriteByte('\n')
	}
	return b.String()
}

// P13.1, P13.2, P13.3: the runs and the examples.
func TestRuns(t *testing.T) {
	h := made(t, 8)
	mustArray(t, h, false, 5, 1)
	refused(t, h, api.ErrFull, "Array(false, 0)", func() (int, api.Errno) { return h.Array(false, 0) })

	h = made(t, 8)
	mustObject(t, h, h.Shape([]bool{true, false}), 1)
	mustGet(t, h, 1, 0, 0)

	h = made(t, 100)
	mustObject(t, h, h.Shape([]bool{true}), 1)
	mustObject(t, h, 0, 5)
	if to, why := h.Slide([]int{5}); !slices.Equal(to, []int{1}) || why != api.OK {
		t.Errorf("Slide of the second one: %v, %v", to, why)
	}
	refused(t, h, api.ErrArg, "Array(false, 257)", func() (int, api.Errno) { return h.Array(false, 257) })
	refused(t, h, api.ErrArg, "Get(0, 0)", func() (int, api.Errno) { v, why := h.Get(0, 0); return int(v), why })
	if to, why := h.Slide(nil); len(to) != 0 || why != api.OK || h.Used() != 0 || len(h.All()) != 0 {
		t.Errorf("Slide of none: %v, %v; %v are left", to, why, h.All())
	}
}

// P13.1: a heap has 1 to MaxWords words, and all of them are to be had.
func TestNew(t *testing.T) {
	for _, n := range []int{0, -1, math.MinInt, api.MaxWords + 1, math.MaxInt} {
		if h, why := heap.New(n); h != nil || why != api.ErrArg {
			t.Errorf("New(%d): %v, %v", n, h, why)
		}
	}
	for _, n := range []int{1, 2, 3, 4, 259, 260, 5000, api.MaxWords} {
		h := made(t, n)
		if h.Words() != n || h.Used() != 0 || len(h.All()) != 0 {
			t.Errorf("New(%d): %d words, %d used, %v", n, h.Words(), h.Used(), h.All())
		}
		for h.Used()+3 <= n {
			size := min(n-h.Used()-3, api.MaxArray)
			mustArray(t, h, size%2 == 0, size, h.Used()+1)
		}
		if left := n - h.Used(); left > 2 || h.Words() != n {
			t.Errorf("New(%d): %d left, of %d", n, left, h.Words())
		}
		if ref, why := h.Array(true, 0); ref != 0 || why != api.ErrFull {
			t.Errorf("New(%d): Array in what is left: %d, %v", n, ref, why)
		}
	}
}

// P13.1: a shape has one number, by its fields alone.
func TestShape(t *testing.T) {
	h := made(t, 50)
	lists := [][]bool{{true}, nil, {false}, {true, true}, {true, false}, {false, true}, {false, false}, {true, false, true}}
	for range 2 {
		for want, refs := range lists {
			if n := h.Shape(refs); n != want {
				t.Errorf("Shape(%v): %d, want %d", refs, n, want)
			}
		}
	}
	if n := h.Shape([]bool{}); n != 1 {
		t.Errorf("Shape of an empty list: %d, of nil 1", n)
	}
	if n := made(t, 50).Shape(lists[3]); n != 0 {
		t.Errorf("the first Shape of another heap: %d", n)
	}
	for want := range lists {
		ref, why := h.Object(want)
		if why != api.OK || h.ShapeOf(ref) != want || h.Len(ref) != len(lists[want]) {
			t.Errorf("Object(%d): %v: shape %d, length %d", want, why, h.ShapeOf(ref), h.Len(ref))
		}
		for n, is := range lists[want] {
			if h.IsRef(ref, n) != is {
				t.Errorf("IsRef of shape %d, field %d: not %v", want, n, is)
			}
		}
	}
	for _, n := range []int{-1, -2, -3, len(lists), math.MaxInt, math.MinInt} {
		refused(t, h, api.ErrArg, fmt.Sprintf("Object(%d)", n), func() (int, api.Errno) { return h.Object(n) })
	}
}

// P13.1: many shapes, and some with more fields than there are words.
func TestManyShapes(t *testing.T) {
	h := made(t, api.MaxWords)
	for range 2 {
		for n := range 3000 {
			if got := h.Shape(bits(n)); got != n {
				t.Fatalf("Shape(%v): %d, want %d", bits(n), got, n)
			}
		}
	}
	for i, n := range []int{api.MaxWords - 3, api.MaxWords - 2, 100000} {
		shape := h.Shape(make([]bool, n))
		ref, why := h.Object(shape)
		if i == 0 && (ref != 1 || why != api.OK || h.Len(1) != n || h.Used() != api.MaxWords) {
			t.Errorf("Object of %d fields: %d, %v, %d used", n, ref, why, h.Used())
		}
		if i > 0 && (ref != 0 || why != api.ErrFull) {
			t.Errorf("Object of %d fields: %d, %v", n, ref, why)
		}
		h.Slide(nil)
	}
}

// bits makes another list of each number: those of n behind its highest one.
func bits(n int) []bool {
	var l []bool
	for n++; n > 1; n /= 2 {
		l = append(l, n%2 == 1)
	}
	return l
}

// P13.1: objects and arrays lie one behind the other; the last word may be had, and no word more.
func TestPlaces(t *testing.T) {
	h := made(t, 17)
	two, none := h.Shape([]bool{true, false}), h.Shape(nil)
	mustObject(t, h, two, 1)
	mustObject(t, h, none, 6)
	mustArray(t, h, true, 2, 9)
	refused(t, h, api.ErrFull, "Object of 5 words in 4", func() (int, api.Errno) { return h.Object(two) })
	refused(t, h, api.ErrFull, "Array of 5 words in 4", func() (int, api.Errno) { return h.Array(false, 2) })
	mustArray(t, h, false, 1, 14)
	if all := h.All(); !slices.Equal(all, []int{1, 6, 9, 14}) || h.Used() != 17 || h.Words() != 17 {
		t.Errorf("%v, %d of %d words", all, h.Used(), h.Words())
	}
	for ref, want := range map[int]int{1: two, 6: none, 9: -2, 14: -1, 0: -3, -1: -3, 2: -3, 5: -3, 15: -3, 17: -3, 18: -3, math.MaxInt: -3, math.MinInt: -3} {
		if n := h.ShapeOf(ref); n != want {
			t.Errorf("ShapeOf(%d): %d, want %d", ref, n, want)
		}
	}
	refused(t, h, api.ErrFull, "Object in a full heap", func() (int, api.Errno) { return h.Object(none) })
	refused(t, h, api.ErrArg, "Object of no shape in a full heap", func() (int, api.Errno) { return h.Object(2) })
	refused(t, h, api.ErrArg, "Array of 257 in a full heap", func() (int, api.Errno) { return h.Array(true, 257) })
	refused(t, h, api.ErrArg, "Array of -1 in a full heap", func() (int, api.Errno) { return h.Array(true, -1) })
	refused(t, h, api.ErrFull, "Array of 256 in a full heap", func() (int, api.Errno) { return h.Array(true, 256) })
}

// P13.1: how many fields an array may have.
func TestArrays(t *testing.T) {
	h := made(t, 1000)
	for _, n := range []int{-1, -3, math.MinInt, api.MaxArray + 1, math.MaxInt} {
		for _, refs := range []bool{false, true} {
			refused(t, h, api.ErrArg, fmt.Sprintf("Array(%v, %d)", refs, n), func() (int, api.Errno) { return h.Array(refs, n) })
		}
	}
	mustArray(t, h, false, api.MaxArray, 1)
	mustArray(t, h, true, api.MaxArray, 260)
	mustArray(t, h, false, 0, 519)
	for i, ref := range []int{1, 260} {
		for n := range api.MaxArray {
			mustGet(t, h, ref, n, 0)
			if h.IsRef(ref, n) != (i == 1) {
				t.Errorf("IsRef(%d, %d)", ref, n)
			}
		}
	}
	if h.Len(1) != 256 || h.Len(260) != 256 || h.Len(519) != 0 || h.ShapeOf(519) != -1 {
		t.Errorf("Len: %d, %d, %d; ShapeOf: %d", h.Len(1), h.Len(260), h.Len(519), h.ShapeOf(519))
	}
}

// P13.2: what may be set where, one of each kind, ErrArg ahead of ErrType.
func TestSet(t *testing.T) {
	h := made(t, 100)
	mustObject(t, h, h.Shape([]bool{true, false}), 1)
	mustObject(t, h, h.Shape(nil), 6)
	mustArray(t, h, true, 2, 9)
	mustArray(t, h, false, 1, 14)
	for _, x := range []struct {
		ref, n int
		v      int64
		why    api.Errno
	}{
		{1, 0, 14, api.OK}, {1, 0, 1, api.OK}, {1, 0, 6, api.OK}, {1, 0, 0, api.OK}, {1, 0, 9, api.OK},
		{1, 0, 2, api.ErrType}, {1, 0, 17, api.ErrType}, {1, 0, 18, api.ErrType}, {1, 0, -1, api.ErrType}, {1, 0, 1<<32 + 1, api.ErrType}, {1, 0, math.MinInt64, api.ErrType}, {1, 0, math.MaxInt64, api.ErrType},
		{1, 1, math.MinInt64, api.OK}, {1, 1, math.MaxInt64, api.OK}, {1, 1, 2, api.OK}, {1, 1, 0, api.OK}, {1, 1, -1, api.OK},
		{9, 0, 9, api.OK}, {9, 1, 14, api.OK}, {9, 1, 13, api.ErrType}, {9, 1, 0, api.OK}, {9, 0, 3, api.ErrType},
		{14, 0, 13, api.OK}, {14, 0, math.MaxInt64, api.OK},
		{1, 2, 0, api.ErrArg}, {1, -1, 0, api.ErrArg}, {6, 0, 0, api.ErrArg}, {9, 2, 1, api.ErrArg}, {14, 1, 0, api.ErrArg}, {14, -1, 0, api.ErrArg},
		{0, 0, 0, api.ErrArg}, {2, 0, 0, api.ErrArg}, {-1, 0, 0, api.ErrArg}, {17, 0, 0, api.ErrArg}, {18, 0, 0, api.ErrArg}, {math.MinInt, 0, 0, api.ErrArg}, {math.MaxInt, math.MaxInt, 0, api.ErrArg}, {1, math.MaxInt, 0, api.ErrArg}, {1, math.MinInt, 0, api.ErrArg},
		{9, 2, 13, api.ErrArg}, {1, 2, 2, api.ErrArg}, {10, 0, 2, api.ErrArg},
	} {
		if x.why == api.OK {
			mustSet(t, h, x.ref, x.n, x.v)
			mustGet(t, h, x.ref, x.n, x.v)
			continue
		}
		refused(t, h, x.why, fmt.Sprintf("Set(%d, %d, %d)", x.ref, x.n, x.v), func() (int, api.Errno) { return 0, h.Set(x.ref, x.n, x.v) })
		if v, why := h.Get(x.ref, x.n); x.why == api.ErrArg && (v != 0 || why != api.ErrArg || h.IsRef(x.ref, x.n)) {
			t.Errorf("Get(%d, %d): %d, %v, IsRef %v", x.ref, x.n, v, why, h.IsRef(x.ref, x.n))
		}
	}
	if all := h.All(); !slices.Equal(all, []int{1, 6, 9, 14}) {
		t.Errorf("All behind it: %v", all)
	}
}

// P13.1, P13.2: a field that looks like the beginning of an object is none.
func TestNumbersThatLookLikeObjects(t *testing.T) {
	h := made(t, 60)
	mustArray(t, h, false, 20, 1)
	for n := range 20 {
		mustSet(t, h, 1, n, []int64{-1, 2, 0, 0, 0}[n%5])
	}
	mustArray(t, h, true, 1, 24)
	for ref := 2; ref < 24; ref++ {
		if h.ShapeOf(ref) != -3 || h.Len(ref) != 0 || h.SetTag(ref, 1) != api.ErrArg || h.Set(24, 0, int64(ref)) != api.ErrType {
			t.Errorf("%d is an object", ref)
		}
	}
}

// P13.2: a tag is any number, of each object its own.
func TestTag(t *testing.T) {
	h := made(t, 60)
	mustArray(t, h, false, 2, 1)
	mustArray(t, h, true, 0, 6)
	mustObject(t, h, h.Shape([]bool{false}), 9)
	for _, ref := range []int{1, 6, 9} {
		if v := h.Tag(ref); v != 0 {
			t.Errorf("Tag(%d) at first: %d", ref, v)
		}
	}
	for _, v := range []int64{1, -1, math.MaxInt64, math.MinInt64, 0, 7} {
		if why := h.SetTag(6, v); why != api.OK || h.Tag(6) != v || h.Tag(1) != 0 || h.Tag(9) != 0 {
			t.Errorf("SetTag(6, %d): %v, %d, beside %d and %d", v, why, h.Tag(6), h.Tag(1), h.Tag(9))
		}
	}
	for _, ref := range []int{0, -1, 2, 5, 7, 8, 10, 12, 13, 61, math.MaxInt, math.MinInt} {
		refused(t, h, api.ErrArg, fmt.Sprintf("SetTag(%d, 5)", ref), func() (int, api.Errno) { return 0, h.SetTag(ref, 5) })
		if v := h.Tag(ref); v != 0 {
			t.Errorf("Tag(%d): %d", ref, v)
		}
	}
	mustGet(t, h, 1, 0, 0)
	mustGet(t, h, 9, 0, 0)
}

// five makes objects at 1, 7, 13, 19 and 25: the second and the last one refer to each other, the fourth one to the first one, the third one to itself.
func five(t *testing.T) *heap.Heap {
	t.Helper()
	h := made(t, 60)
	s := h.Shape([]bool{true, false, true})
	for ref := 1; ref < 30; ref += 6 {
		mustObject(t, h, s, ref)
		mustSet(t, h, ref, 1, int64(ref)*100)
		h.SetTag(ref, int64(ref)*10)
	}
	mustSet(t, h, 7, 0, 25)
	mustSet(t, h, 25, 2, 7)
	mustSet(t, h, 19, 0, 1)
	mustSet(t, h, 13, 2, 13)
	return h
}

// P13.3: what may not be kept changes nothing.
func TestSlideRefused(t *testing.T) {
	h := five(t)
	for _, keep := range [][]int{
		{7, 1}, {1, 1}, {1, 7, 25, 25}, {1, 13, 7, 25}, {25, 7}, {1, 0},
		{0}, {0, 1}, {-1}, {-1, 1}, {2}, {6}, {1, 2}, {1, 30}, {31}, {99}, {math.MaxInt}, {math.MinInt}, {1, math.MaxInt},
		{7}, {25}, {19}, {19, 25}, {1, 7}, {1, 7, 13, 19}, {13, 19}, {1, 13, 19, 25},
	} {
		was := slices.Clone(keep)
		refused(t, h, api.ErrArg, fmt.Sprintf("Slide(%v)", keep), func() (int, api.Errno) {
			to, why := h.Slide(keep)
			return len(to), why
		})
		if !slices.Equal(was, keep) {
			t.Errorf("Slide(%v) left %v", was, keep)
		}
	}
}

// P13.3: each set of objects that leads to no other, and nothing but such a set.
func TestSlideEach(t *testing.T) {
	refs := []int{1, 7, 13, 19, 25}
	for set := range 32 {
		h := five(t)
		var keep, want []int
		for i, ref := range refs {
			if set>>i&1 == 1 {
				keep = append(keep, ref)
				want = append(want, len(want)*6+1)
			}
		}
		has := func(ref int) bool { return slices.Contains(keep, ref) }
		may := has(7) == has(25) && (has(1) || !has(19))
		to, why := h.Slide(keep)
		if !may && (len(to) > 0 || why != api.ErrArg || h.Used() != 30) {
			t.Errorf("Slide(%v): %v, %v", keep, to, why)
		}
		if !may {
			continue
		}
		if !slices.Equal(to, want) || why != api.OK || !slices.Equal(h.All(), want) || h.Used() != 6*len(want) || h.Words() != 60 {
			t.Errorf("Slide(%v): %v, %v; %v, %d used", keep, to, why, h.All(), h.Used())
		}
		for i, ref := range keep {
			mustGet(t, h, to[i], 1, int64(ref)*100)
			if h.Tag(to[i]) != int64(ref)*10 || h.ShapeOf(to[i]) != 0 || h.Len(to[i]) != 3 {
				t.Errorf("Slide(%v): tag %d, shape %d, length %d of %d", keep, h.Tag(to[i]), h.ShapeOf(to[i]), h.Len(to[i]), ref)
			}
		}
	}
}

// P13.3, P13.4: fields that are references go along, numbers that look like references do not.
func TestSlideFields(t *testing.T) {
	h := five(t)
	mustArray(t, h, true, 3, 31)
	mustArray(t, h, false, 3, 37)
	mustSet(t, h, 31, 0, 37)
	mustSet(t, h, 31, 2, 7)
	mustSet(t, h, 37, 0, 31)
	mustSet(t, h, 37, 1, 1)
	mustSet(t, h, 7, 1, 13)
	mustSet(t, h, 7, 2, 31)
	h.SetTag(31, 37)
	to, why := h.Slide([]int{7, 25, 31, 37})
	if !slices.Equal(to, []int{1, 7, 13, 19}) || why != api.OK {
		t.Fatalf("Slide: %v, %v", to, why)
	}
	for ref, want := range map[int][3]int64{1: {7, 13, 13}, 7: {0, 2500, 1}, 13: {19, 0, 1}, 19: {31, 1, 0}} {
		for n, v := range want {
			mustGet(t, h, ref, n, v)
		}
	}
	for ref, want := range map[int][2]int{1: {0, 70}, 7: {0, 250}, 13: {-2, 37}, 19: {-1, 0}} {
		if h.ShapeOf(ref) != want[0] || h.Tag(ref) != int64(want[1]) {
			t.Errorf("%d: shape %d, tag %d", ref, h.ShapeOf(ref), h.Tag(ref))
		}
	}
	was := told(h)
	if to, why := h.Slide(h.All()); !slices.Equal(to, h.All()) || why != api.OK || told(h) != was {
		t.Errorf("Slide of all: %v, %v", to, why)
	}
}

// P13.1, P13.3: what a slide gives back may be had again, all 0, and what was in it is no object any more.
func TestRoomAgain(t *testing.T) {
	h := made(t, 40)
	for i := range 5 {
		mustArray(t, h, false, 5, i*8+1)
		h.SetTag(i*8+1, -5)
		for n := range 5 {
			mustSet(t, h, i*8+1, n, -1)
		}
	}
	if to, why := h.Slide([]int{17}); !slices.Equal(to, []int{1}) || why != api.OK {
		t.Fatalf("Slide: %v, %v", to, why)
	}
	for ref := 2; ref <= 41; ref++ {
		if h.ShapeOf(ref) != -3 || h.Len(ref) != 0 || h.Tag(ref) != 0 {
			t.Errorf("%d is still an object", ref)
		}
	}
	mustArray(t, h, true, 0, 9)
	mustArray(t, h, true, 26, 12)
	if h.Tag(9) != 0 || h.Tag(12) != 0 || h.Used() != 40 {
		t.Errorf("tags %d and %d, %d used", h.Tag(9), h.Tag(12), h.Used())
	}
	for n := range 26 {
		mustGet(t, h, 12, n, 0)
	}
	refused(t, h, api.ErrFull, "Array in a full heap", func() (int, api.Errno) { return h.Array(false, 0) })
	if _, why := h.Slide(nil); why != api.OK || h.Shape([]bool{true}) != 0 {
		t.Errorf("Slide of none: %v", why)
	}
	mustObject(t, h, 0, 1)
	if _, why := h.Slide([]int{}); why != api.OK || h.Used() != 0 || h.Shape([]bool{true}) != 0 || h.Shape([]bool{false}) != 1 {
		t.Errorf("Slide of an empty list: %v; shapes must stay", why)
	}
}

// P13.4: by the same way through the fields the same numbers are met, ahead of a slide and behind it.
func TestSameWays(t *testing.T) {
	r := rand.New(rand.NewSource(4))
	for range 200 {
		h := made(t, 300)
		s := h.Shape([]bool{true, false, true, true})
		for h.Used()+7 <= 300 {
			ref, _ := h.Object(s)
			mustSet(t, h, ref, 1, r.Int63())
			h.SetTag(ref, r.Int63())
		}
		all := h.All()
		for _, ref := range all {
			for _, n := range []int{0, 2, 3} {
				if r.Intn(4) == 0 {
					mustSet(t, h, ref, n, int64(all[r.Intn(len(all))]))
				}
			}
		}
		keep := reached(h, all[r.Intn(len(all))])
		ways := make([][]int, 50)
		var want []string
		for i := range ways {
			ways[i] = r.Perm(4)[:3]
			want = append(want, along(h, keep[i%len(keep)], ways[i]))
		}
		to, why := h.Slide(keep)
		if why != api.OK || len(to) != len(keep) {
			t.Fatalf("Slide(%v): %v, %v", keep, to, why)
		}
		for i := range ways {
			if got := along(h, to[i%len(to)], ways[i]); got != want[i] {
				t.Fatalf("by %v: %s, was %s", ways[i], got, want[i])
			}
		}
	}
}

// reached are the objects to which the fields of ref lead, and it.
func reached(h *heap.Heap, ref int) []int {
	l := []int{ref}
	for i := 0; i < len(l); i++ {
		for n := range h.Len(l[i]) {
			v, _ := h.Get(l[i], n)
			if h.IsRef(l[i], n) && v != 0 && !slices.Contains(l, int(v)) {
				l = append(l, int(v))
			}
		}
	}
	slices.Sort(l)
	return l
}

// along tells what is met when the fields of a way are followed from ref on.
func along(h *heap.Heap, ref int, way []int) string {
	var b strings.Builder
	for _, n := range way {
		fmt.Fprint(&b, h.ShapeOf(ref), " ", h.Tag(ref), " ")
		v, why := h.Get(ref, n)
		if !h.IsRef(ref, n) {
			fmt.Fprint(&b, v, why, ";")
			continue
		}
		fmt.Fprint(&b, v == 0, ";")
		ref = int(v)
	}
	return b.String()
}
