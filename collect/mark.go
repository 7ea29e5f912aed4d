package collect

import (
	"carafe/api"
	"carafe/heap"
)

// header is how many words an object has ahead of its fields.
const header = 3

// noObject is what a heap tells as the shape of what is none.
const noObject = -3

// stack is what waits, the last one that came the first one to go.
type stack[T any] []T

func (s *stack[T]) push(x T) { *s = append(*s, x) }

func (s *stack[T]) pop() T {
	last := len(*s) - 1
	x := (*s)[last]
	*s = (*s)[:last]
	return x
}

// marking is one look at what is reached.
type marking struct {
	h       *heap.Heap
	reached []bool     // of each reference
	left    stack[int] // reached, but their fields are still to be looked at
	steps   int        // one for each root, object and field that was looked at
}

// mark answers no marking where it refuses.
func mark(h *heap.Heap, roots []int) (*marking, api.Errno) {
	if h == nil {
		return nil, api.ErrArg
	}
	m := &marking{h: h, reached: make([]bool, h.Used()+1)}
	for _, ref := range roots {
		if !mayBeRoot(h, ref) {
			return nil, api.ErrArg
		}
		m.steps++
		m.reach(ref)
	}
	for len(m.left) > 0 {
		m.follow(m.left.pop())
	}
	return m, api.OK
}

func mayBeRoot(h *heap.Heap, ref int) bool {
	return ref == 0 || h.ShapeOf(ref) != noObject
}

// reach lets an object wait once, however many refer to it.
func (m *marking) reach(ref int) {
	if ref != 0 && !m.reached[ref] {
		m.reached[ref] = true
		m.left.push(ref)
	}
}

// follow reaches what the fields of an object refer to.
func (m *marking) follow(ref int) {
	m.steps++
	for n := range m.h.Len(ref) {
		m.steps++
		if m.h.IsRef(ref, n) {
			to, _ := m.h.Get(ref, n)
			m.reach(int(to))
		}
	}
}

// list asks the objects in the order in which they lie, so that nothing has to be sorted.
func (m *marking) list() []int {
	var l []int
	for _, ref := range m.h.All() {
		if m.reached[ref] {
			l = append(l, ref)
		}
	}
	return l
}
