package maps

import (
	"carafe/api"
	"carafe/flow"
)

// set is a set of locals, a bit each: just as many as MaxLocals have room.
type set uint16

// growth is code, and what is known so far to be live ahead of each instruction.
type growth struct {
	l      []api.Inst
	next   [][]int // of each instruction those that may come behind it
	h      []api.Handler
	caught []int // of each handler the number of the instruction at its At: -1 if none stands there
	live   []set
}

// Live tells of each instruction which locals are live ahead of it.
func Live(l []api.Inst, h []api.Handler, locals int) [][]bool {
	locals = max(0, min(locals, api.MaxLocals))
	g := begin(l, h)
	g.grow()
	live := make([][]bool, len(l))
	for n, s := range g.live {
		live[n] = s.list(locals)
	}
	return live
}

// begin looks up once where code goes, and takes nothing for live.
func begin(l []api.Inst, h []api.Handler) *growth {
	g := &growth{l: l, next: make([][]int, len(l)), h: h, caught: make([]int, len(h)), live: make([]set, len(l))}
	for n := range l {
		g.next[n] = flow.Next(l, n)
	}
	for n, x := range h {
		g.caught[n] = flow.Find(l, x.At)
	}
	return g
}

// grow lets the sets grow from nothing, so that they end as the least ones, and is over when as many instructions in a row as there are have nothing new.
func (g *growth) grow() {
	still := 0
rounds:
	for len(g.l) > 0 {
		for n := len(g.l) - 1; n >= 0; n-- { // backwards, since an instruction asks those behind it
			if s := g.ahead(n); s != g.live[n] {
				g.live[n], still = s, 0
				continue
			}
			if still++; still == len(g.l) {
				break rounds
			}
		}
	}
}

// ahead answers what is live ahead of the n-th instruction, by what is known so far of the others.
func (g *growth) ahead(n int) set {
	i := g.l[n]
	var behind set
	for _, next := range g.next[n] {
		behind |= g.live[next]
	}
	live := reads(i) | behind&^stores(i)
	for k, x := range g.h {
		if to := g.caught[k]; to >= 0 && x.From <= i.At && i.At < x.To {
			live |= g.live[to] // what throws has stored nothing
		}
	}
	return live
}

func reads(i api.Inst) set {
	switch i.Op {
	case api.ILoad, api.ALoad, api.Inc:
		return only(i.A)
	}
	return 0
}

func stores(i api.Inst) set {
	switch i.Op {
	case api.IStore, api.AStore:
		return only(i.A)
	}
	return 0
}

// only is the set of local n alone; of one that no method can have it is empty.
func only(n int) set {
	if n < 0 || n >= api.MaxLocals {
		return 0
	}
	return 1 << n
}

// list tells of each of the first locals whether it is in the set.
func (s set) list(locals int) []bool {
	l := make([]bool, locals)
	for n := range l {
		l[n] = s&only(n) != 0
	}
	return l
}
