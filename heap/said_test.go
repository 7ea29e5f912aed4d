package heap_test

import (
	"slices"

	"carafe/api"
)

// What the chapter says, said anew: objects that refer to one another by themselves, in a list; where one begins is counted each time that it is asked for, so that nothing has to move.

type thing struct {
	shape  int
	refs   []bool
	tag    int64
	number []int64
	other  []*thing
}

type said struct {
	most   int
	shapes [][]bool
	things []*thing
}

func (s *said) used() int {
	n := 0
	for _, x := range s.things {
		n += 3 + len(x.refs)
	}
	return n
}

// where answers 0 of nil, as of what is not there.
func (s *said) where(x *thing) int {
	at := 1
	for _, y := range s.things {
		if x == y {
			return at
		}
		at += 3 + len(y.refs)
	}
	return 0
}

func (s *said) find(ref int64) *thing {
	at := int64(1)
	for _, x := range s.things {
		if at == ref {
			return x
		}
		at += 3 + int64(len(x.refs))
	}
	return nil
}

func (s *said) field(ref, n int) (*thing, bool) {
	x := s.find(int64(ref))
	return x, x != nil && n >= 0 && n < len(x.refs)
}

func (s *said) shapeNumber(refs []bool) int {
	for i, l := range s.shapes {
		if slices.Equal(l, refs) {
			return i
		}
	}
	s.shapes = append(s.shapes, slices.Clone(refs))
	return len(s.shapes) - 1
}

func (s *said) object(shape int) (int, api.Errno) {
	if shape < 0 || shape >= len(s.shapes) {
		return 0, api.ErrArg
	}
	return s.behind(shape, s.shapes[shape])
}

func (s *said) array(refs bool, n int) (int, api.Errno) {
	if n < 0 || n > 256 {
		return 0, api.ErrArg
	}
	l := make([]bool, n)
	shape := -1
	if refs {
		shape = -2
		for i := range l {
			l[i] = true
		}
	}
	return s.behind(shape, l)
}

func (s *said) behind(shape int, refs []bool) (int, api.Errno) {
	at := s.used() + 1
	if s.used()+3+len(refs) > s.most {
		return 0, api.ErrFull
	}
	s.things = append(s.things, &thing{shape: shape, refs: refs, number: make([]int64, len(refs)), other: make([]*thing, len(refs))})
	return at, api.OK
}

func (s *said) get(ref, n int) (int64, api.Errno) {
	x, ok := s.field(ref, n)
	if !ok {
		return 0, api.ErrArg
	}
	if x.refs[n] {
		return int64(s.where(x.other[n])), api.OK
	}
	return x.number[n], api.OK
}

func (s *said) set(ref, n int, v int64) api.Errno {
	x, ok := s.field(ref, n)
	if !ok {
		return api.ErrArg
	}
	if !x.refs[n] {
		x.number[n] = v
		return api.OK
	}
	y := s.find(v)
	if y == nil && v != 0 {
		return api.ErrType
	}
	x.other[n] = y
	return api.OK
}

func (s *said) isRef(ref, n int) bool {
	x, ok := s.field(ref, n)
	return ok && x.refs[n]
}

func (s *said) size(ref int) int {
	if x := s.find(int64(ref)); x != nil {
		return len(x.refs)
	}
	return 0
}

func (s *said) shapeOf(ref int) int {
	if x := s.find(int64(ref)); x != nil {
		return x.shape
	}
	return -3
}

func (s *said) tag(ref int) int64 {
	if x := s.find(int64(ref)); x != nil {
		return x.tag
	}
	return 0
}

func (s *said) setTag(ref int, v int64) api.Errno {
	x := s.find(int64(ref))
	if x == nil {
		return api.ErrArg
	}
	x.tag = v
	return api.OK
}

func (s *said) all() []int {
	var l []int
	for _, x := range s.things {
		l = append(l, s.where(x))
	}
	return l
}

func (s *said) slide(keep []int) ([]int, api.Errno) {
	var left []*thing
	for i, ref := range keep {
		x := s.find(int64(ref))
		if x == nil || i > 0 && keep[i-1] >= ref {
			return nil, api.ErrArg
		}
		left = append(left, x)
	}
	for _, x := range left {
		for _, y := range x.other {
			if y != nil && !slices.Contains(left, y) {
				return nil, api.ErrArg
			}
		}
	}
	s.things = left
	return s.all(), api.OK
}
