package collect

import (
	"carafe/heap"
)

// pair is an object of one heap beside an object of another.
type pair struct{ x, y int }

// pairing puts what is reached in a beside what is reached in b: roots and references leave no choice what goes beside what.
type pairing struct {
	a, b   *heap.Heap
	beside map[int]int // of an object of a the one of b
	back   map[int]int // of an object of b the one of a
	left   stack[pair] // beside one another, but what they hold is still to be compared
}

// Like answers whether what is reached in a and in b differs in nothing but where it lies.
func Like(a *heap.Heap, ra []int, b *heap.Heap, rb []int) bool {
	if a == nil || b == nil || len(ra) != len(rb) {
		return false
	}
	p := &pairing{a: a, b: b, beside: map[int]int{0: 0}, back: map[int]int{0: 0}} // null goes beside null alone
	for i, x := range ra {
		if !mayBeRoot(a, x) || !mayBeRoot(b, rb[i]) || !p.put(x, rb[i]) {
			return false
		}
	}
	for len(p.left) > 0 {
		if !p.alike(p.left.pop()) {
			return false
		}
	}
	return true
}

// put answers false where one of the two stands beside another one already.
func (p *pairing) put(x, y int) bool {
	other, known := p.beside[x]
	one, taken := p.back[y]
	if known || taken {
		return other == y && one == x
	}
	p.beside[x], p.back[y] = y, x
	p.left.push(pair{x, y})
	return true
}

// alike compares all that a pair holds; what it refers to is put side by side, and compared later.
func (p *pairing) alike(o pair) bool {
	if p.a.ShapeOf(o.x) != p.b.ShapeOf(o.y) || p.a.Len(o.x) != p.b.Len(o.y) || p.a.Tag(o.x) != p.b.Tag(o.y) {
		return false
	}
	for n := range p.a.Len(o.x) {
		if !p.sameField(o, n) {
			return false
		}
	}
	return true
}

// sameField asks both heaps what the field is: each heap numbers its shapes by itself.
func (p *pairing) sameField(o pair, n int) bool {
	ref := p.a.IsRef(o.x, n)
	if ref != p.b.IsRef(o.y, n) {
		return false
	}
	v, _ := p.a.Get(o.x, n)
	w, _ := p.b.Get(o.y, n)
	if ref {
		return p.put(int(v), int(w))
	}
	return v == w
}
