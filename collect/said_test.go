package collect_test

import (
	"fmt"
	"slices"
	"strings"

	"carafe/heap"
)

// What the chapter says, said anew: a heap is looked at once, through its own calls, and is a list of things from then on.

type field struct {
	ref bool
	v   int64
}

type thing struct {
	at, shape int
	tag       int64
	fields    []field
}

type said []thing

func look(h *heap.Heap) said {
	var s said
	for _, ref := range h.All() {
		x := thing{at: ref, shape: h.ShapeOf(ref), tag: h.Tag(ref)}
		for n := range h.Len(ref) {
			v, _ := h.Get(ref, n)
			x.fields = append(x.fields, field{h.IsRef(ref, n), v})
		}
		s = append(s, x)
	}
	return s
}

func (s said) is(ref int) bool {
	return slices.ContainsFunc(s, func(x thing) bool { return x.at == ref })
}

// allowed tells whether each root is 0 or an object.
func (s said) allowed(roots []int) bool {
	return !slices.ContainsFunc(roots, func(ref int) bool { return ref != 0 && !s.is(ref) })
}

// reached goes through all things again until none is new.
func (s said) reached(roots []int) []int {
	in := map[int]bool{}
	for _, ref := range roots {
		in[ref] = true
	}
	for was := -1; was < len(in); {
		was = len(in)
		for _, x := range s {
			for _, f := range x.fields {
				if in[x.at] && f.ref {
					in[int(f.v)] = true
				}
			}
		}
	}
	var l []int
	for _, x := range s {
		if in[x.at] {
			l = append(l, x.at)
		}
	}
	return l
}

func (s said) size(refs []int) int {
	n := 0
	for _, x := range s {
		if slices.Contains(refs, x.at) {
			n += 3 + len(x.fields)
		}
	}
	return n
}

// slid has just these, one behind the other from 1 on; to tells where each of them is.
func (s said) slid(refs []int) (left said, to map[int]int) {
	to = map[int]int{0: 0}
	next := 1
	for _, x := range s {
		if slices.Contains(refs, x.at) {
			to[x.at] = next
			next += 3 + len(x.fields)
		}
	}
	for _, x := range s {
		if !slices.Contains(refs, x.at) {
			continue
		}
		y := thing{at: to[x.at], shape: x.shape, tag: x.tag}
		for _, f := range x.fields {
			if f.ref {
				f.v = int64(to[int(f.v)])
			}
			y.fields = append(y.fields, f)
		}
		left = append(left, y)
	}
	return left, to
}

// text names what is reached by the way on which it is met first, so that heaps that are alike have the same text.
func (s said) text(roots []int) string {
	names := map[int]int{0: 0}
	var met []int
	name := func(ref int) int {
		if _, ok := names[ref]; !ok {
			met = append(met, ref)
			names[ref] = len(met)
		}
		return names[ref]
	}
	var b strings.Builder
	for _, ref := range roots {
		fmt.Fprint(&b, name(ref), " ")
	}
	for i := 0; i < len(met); i++ {
		x := s[slices.IndexFunc(s, func(x thing) bool { return x.at == met[i] })]
		fmt.Fprint(&b, "\n", x.shape, " ", x.tag)
		for _, f := range x.fields {
			if f.ref {
				fmt.Fprint(&b, " ref ", name(int(f.v)))
			} else {
				fmt.Fprint(&b, " ", f.v)
			}
		}
	}
	return b.String()
}

// tried tries each way to put what is reached on one side beside what is reached on the other, as the chapter's words ask it.
func tried(a said, ra []int, b said, rb []int) bool {
	if !a.allowed(ra) || !b.allowed(rb) || len(ra) != len(rb) {
		return false
	}
	la, lb := a.reached(ra), b.reached(rb)
	if len(la) != len(lb) {
		return false
	}
	found := false
	eachOrder(lb, 0, func(order []int) {
		beside := map[int]int{0: 0}
		for i, ref := range la {
			beside[ref] = order[i]
		}
		found = found || holds(a, ra, b, rb, beside)
	})
	return found
}

// eachOrder calls does with each order of l.
func eachOrder(l []int, from int, does func([]int)) {
	if from == len(l) {
		does(l)
		return
	}
	for i := from; i < len(l); i++ {
		l[from], l[i] = l[i], l[from]
		eachOrder(l, from+1, does)
		l[from], l[i] = l[i], l[from]
	}
}

// holds tells whether roots, shapes, lengths, tags, numbers and references are the same if beside tells what is beside what.
func holds(a said, ra []int, b said, rb []int, beside map[int]int) bool {
	for i, ref := range ra {
		if beside[ref] != rb[i] {
			return false
		}
	}
	for _, x := range a {
		if _, in := beside[x.at]; !in {
			continue
		}
		y := b[slices.IndexFunc(b, func(y thing) bool { return y.at == beside[x.at] })]
		if x.shape != y.shape || x.tag != y.tag || len(x.fields) != len(y.fields) {
			return false
		}
		for n, f := range x.fields {
			if f.ref {
				f.v = int64(beside[int(f.v)])
			}
			if f != y.fields[n] {
				return false
			}
		}
	}
	return true
}
