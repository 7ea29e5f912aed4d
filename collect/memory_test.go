package collect_test

import (
	"reflect"
	"slices"
	"testing"

	"carafe/api"
	"carafe/collect"
)

// P14.1, P14.2, P14.3, R2, R5: a list of roots is not changed and not kept, and what is behind its length is not read.
func TestRootsLists(t *testing.T) {
	h, g := six(t), six(t)
	room := []int{26, 0, 17, 2, -9}
	roots, was := room[:3], slices.Clone(room)
	l, why := collect.Mark(h, roots)
	if !slices.Equal(l, []int{17, 23, 26}) || why != api.OK || !slices.Equal(room, was) {
		t.Errorf("Mark: %v, %v, left %v", l, why, room)
	}
	if n, why := collect.Size(h, roots); n != 16 || why != api.OK || !slices.Equal(room, was) {
		t.Errorf("Size: %d, %v, left %v", n, why, room)
	}
	if !collect.Like(h, roots, g, roots) || !slices.Equal(room, was) {
		t.Errorf("Like left %v", room)
	}
	to, _, why := collect.Run(h, roots)
	if !slices.Equal(to, []int{10, 0, 1}) || why != api.OK || !slices.Equal(room, was) {
		t.Errorf("Run: %v, %v, left %v", to, why, room)
	}
	collect.Run(g, room[2:3])
	if !slices.Equal(room, was) {
		t.Errorf("Run left %v", room)
	}
	is := look(h)
	spoil(room)
	if !reflect.DeepEqual(look(h), is) || !slices.Equal(to, []int{10, 0, 1}) {
		t.Error("the heap, or an answer, hangs on the list that was handed in")
	}
}

// P14.1, P14.2, R2: what is answered is new, its spare room too.
func TestAnswersAreNew(t *testing.T) {
	h := six(t)
	roots := []int{1, 6, 11, 17, 23, 26}
	first, _ := collect.Mark(h, roots)
	second, _ := collect.Mark(h, roots)
	is := look(h)
	spoil(first)
	if !slices.Equal(second, []int{1, 6, 11, 17, 23, 26}) || !slices.Equal(roots, second) || !reflect.DeepEqual(look(h), is) {
		t.Errorf("Mark's answer shares memory: %v, %v", second, roots)
	}
	to, _, _ := collect.Run(h, roots)
	again, _, _ := collect.Run(h, roots)
	spoil(to)
	if !slices.Equal(again, []int{1, 6, 11, 17, 23, 26}) || !slices.Equal(roots, again) || !reflect.DeepEqual(look(h), is) {
		t.Errorf("Run's answer shares memory: %v, %v", again, roots)
	}
}

func spoil(l []int) {
	l = l[:cap(l)]
	for i := range l {
		l[i] = -77
	}
}

// P14.1, R4: nothing stays from call to call, and one heap knows nothing of another one.
func TestNothingStays(t *testing.T) {
	h, g := six(t), six(t)
	collect.Mark(h, []int{26, 11})
	collect.Like(h, h.All(), g, g.All())
	if l, why := collect.Mark(h, []int{17}); !slices.Equal(l, []int{17}) || why != api.OK {
		t.Errorf("Mark: %v, %v", l, why)
	}
	collect.Run(h, []int{17})
	if !reflect.DeepEqual(look(g), look(six(t))) {
		t.Error("Run of one heap changed another one")
	}
	if to, s, why := collect.Run(g, []int{23}); !slices.Equal(to, []int{1}) || s.Live != 1 || s.Dead != 5 || why != api.OK {
		t.Errorf("Run: %v, %+v, %v", to, s, why)
	}
}
