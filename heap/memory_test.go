package heap_test

import (
	"slices"
	"testing"

	"carafe/api"
)

// P13.1, R2, R5: a shape's list is not kept and not changed, and what is behind its length is not read.
func TestShapeList(t *testing.T) {
	h := made(t, 50)
	room := []bool{true, false, true, true}
	if a, b := h.Shape(room[:2]), h.Shape([]bool{true, false}); a != 0 || b != 0 {
		t.Errorf("Shape: %d, %d", a, b)
	}
	if !slices.Equal(room, []bool{true, false, true, true}) {
		t.Errorf("Shape left %v", room)
	}
	mustObject(t, h, 0, 1)
	room[0], room[1] = false, true
	mustObject(t, h, 0, 6)
	for _, ref := range []int{1, 6} {
		if !h.IsRef(ref, 0) || h.IsRef(ref, 1) {
			t.Errorf("%d took on what was done to the list", ref)
		}
	}
	if a, b := h.Shape([]bool{true, false}), h.Shape(room[:2]); a != 0 || b != 1 {
		t.Errorf("Shape: %d, %d", a, b)
	}
}

// P13.3, R2, R5: a list of what is kept is not changed, not kept, and what is behind its length is not read.
func TestSlideList(t *testing.T) {
	h := five(t)
	room := []int{7, 13, 25, 2, -9}
	to, why := h.Slide(room[:3])
	if !slices.Equal(to, []int{1, 7, 13}) || why != api.OK || !slices.Equal(room, []int{7, 13, 25, 2, -9}) {
		t.Fatalf("Slide: %v, %v, left %v", to, why, room)
	}
	was := told(h)
	spoil(room)
	if told(h) != was {
		t.Error("the heap hangs on the list that was handed in")
	}
}

// P13.2, P13.3, R2: what All and Slide answer is the caller's, its spare room too.
func TestAnswersAreNew(t *testing.T) {
	h := five(t)
	was := told(h)
	spoil(h.All())
	if told(h) != was {
		t.Error("the heap hangs on what All answered")
	}
	first, second := h.All(), h.All()
	spoil(first)
	if !slices.Equal(second, []int{1, 7, 13, 19, 25}) {
		t.Errorf("two answers of All share memory: %v", second)
	}
	keep := h.All()
	to, _ := h.Slide(keep)
	was = told(h)
	spoil(to)
	if !slices.Equal(keep, []int{1, 7, 13, 19, 25}) {
		t.Errorf("Slide's answer is what was handed in: %v", keep)
	}
	if told(h) != was {
		t.Error("the heap hangs on what Slide answered")
	}
	mustArray(t, h, true, 2, 31)
	if !slices.Equal(h.All(), []int{1, 7, 13, 19, 25, 31}) {
		t.Errorf("All: %v", h.All())
	}
}

// spoil writes over a list and its spare room.
func spoil(l []int) {
	l = l[:cap(l)]
	for i := range l {
		l[i] = -77
	}
}

// P13.1, R4: one heap knows nothing of another one.
func TestTwoHeaps(t *testing.T) {
	a, b := five(t), five(t)
	was := told(b)
	mustSet(t, a, 1, 1, 5)
	a.SetTag(7, 5)
	a.Shape([]bool{false})
	mustArray(t, a, false, 1, 31)
	a.Slide(nil)
	mustObject(t, a, 1, 1)
	if told(b) != was {
		t.Error("one heap hangs on another one")
	}
	if why := b.Set(1, 0, 31); why != api.ErrType || b.Shape([]bool{true, true}) != 1 {
		t.Errorf("Set of another heap's object: %v", why)
	}
}
