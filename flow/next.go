package flow

import (
	"slices"

	"carafe/api"
	"carafe/code"
)

// Next answers the instructions that may come behind the n-th.
func Next(l []api.Inst, n int) []int {
	if n < 0 || n >= len(l) {
		return nil
	}
	var next []int
	if !code.Ends(l[n].Op) && n+1 < len(l) {
		next = append(next, n+1)
	}
	if to := target(l, l[n]); to >= 0 {
		next = append(next, to)
	}
	slices.Sort(next)
	return slices.Compact(next)
}

// target is the instruction to which i branches: -1 if it does not, or none stands there.
func target(l []api.Inst, i api.Inst) int {
	if !code.Branch(i.Op) {
		return -1
	}
	return Find(l, i.A)
}

// Reach tells of each instruction whether the first one leads there, by what comes next and by what is thrown.
func Reach(l []api.Inst, h []api.Handler) []bool {
	reached := make([]bool, len(l))
	var left []int // a stack: reached, but not yet gone on from
	reach := func(n int) {
		if n >= 0 && n < len(l) && !reached[n] {
			reached[n] = true
			left = append(left, n)
		}
	}
	reach(0)
	for len(left) > 0 {
		n := left[len(left)-1]
		left = left[:len(left)-1]
		for _, next := range Next(l, n) {
			reach(next)
		}
		for _, x := range h {
			if x.From <= l[n].At && l[n].At < x.To {
				reach(Find(l, x.At))
			}
		}
	}
	return reached
}
