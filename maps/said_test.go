package maps_test

import (
	"fmt"
	"slices"
	"strings"
	"testing"

	"carafe/api"
	"carafe/code"
	"carafe/descr"
	"carafe/kin"
	"carafe/maps"
	"carafe/verify"
)

// What follows says the chapter anew: not by sets that grow, but by going on from each instruction until one is met that reads.

func isOne(op int, of ...int) bool { return slices.Contains(of, op) }

func isBranch(op int) bool { return op >= 153 && op <= 167 || op == 198 || op == 199 }

func isEnd(op int) bool { return isOne(op, 167, 172, 176, 177, 191) }

func doesRead(i api.Inst, local int) bool { return isOne(i.Op, 21, 25, 132) && i.A == local }

func doesStore(i api.Inst, local int) bool { return isOne(i.Op, 54, 58) && i.A == local }

// goesOn are the instructions to which the n-th may go on when it is done.
func goesOn(l []api.Inst, n int) (to []int) {
	if !isEnd(l[n].Op) && n+1 < len(l) {
		to = append(to, n+1)
	}
	if isBranch(l[n].Op) {
		to = append(to, standing(l, l[n].A)...)
	}
	return to
}

// isCaught are the instructions to which the n-th may go when it throws.
func isCaught(l []api.Inst, h []api.Handler, n int) (to []int) {
	for _, x := range h {
		if x.From <= l[n].At && x.To > l[n].At {
			to = append(to, standing(l, x.At)...)
		}
	}
	return to
}

// standing is the instruction at at, if there is one.
func standing(l []api.Inst, at int) []int {
	for n, i := range l {
		if i.At == at {
			return []int{n}
		}
	}
	return nil
}

// isRead tells whether some way from the n-th instruction on reads the local ahead of a store.
func isRead(l []api.Inst, h []api.Handler, n, local int) bool {
	been, left := map[int]bool{}, []int{n}
	for len(left) > 0 {
		at := left[0]
		left = left[1:]
		if been[at] {
			continue
		}
		been[at] = true
		if doesRead(l[at], local) {
			return true
		}
		if !doesStore(l[at], local) {
			left = append(left, goesOn(l, at)...)
		}
		left = append(left, isCaught(l, h, at)...)
	}
	return false
}

// saidLive says P11.1 anew.
func saidLive(l []api.Inst, h []api.Handler, locals int) [][]bool {
	var live [][]bool
	for n := range l {
		row := []bool{}
		for local := 0; local < locals && local < 16; local++ {
			row = append(row, isRead(l, h, n, local))
		}
		live = append(live, row)
	}
	return live
}

// saidOf says P11.2 anew, by states that verify answers.
func saidOf(k *kin.Kin, c api.Class, n int) ([]maps.Map, api.Errno) {
	states, why, _ := verify.States(k, c, n)
	if len(states) == 0 {
		return nil, why
	}
	m := c.Methods[n]
	l, _, _ := code.Decode(m.Code)
	live := saidLive(l, m.Handlers, m.Locals)
	var all []maps.Map
	for number, i := range l {
		all = append(all, maps.Map{At: i.At, Locals: saidRefs(states[number].Locals), Stack: saidRefs(states[number].Stack), Live: live[number]})
	}
	return all, why
}

func saidRefs(l []string) (are []bool) {
	for _, s := range l {
		are = append(are, s == "0" || descr.Field(s) && s != "I")
	}
	return are
}

// saidRoots says P11.2 anew: places are gone through as if locals and stack were one list.
func saidRoots(m maps.Map) (roots []int) {
	for n, ref := range append(slices.Clone(m.Locals), m.Stack...) {
		kept := n >= len(m.Locals) || slices.Contains(m.Live[:min(n+1, len(m.Live))][min(n, len(m.Live)):], true)
		if ref && kept {
			roots = append(roots, n)
		}
	}
	return roots
}

// row tells a list of bools: + and -.
func row(l []bool) string {
	s := ""
	for _, x := range l {
		if x {
			s += "+"
		} else {
			s += "-"
		}
	}
	return s
}

// told tells lists of bools, with spaces between them.
func told(l [][]bool) string {
	var s []string
	for _, x := range l {
		s = append(s, row(x))
	}
	return strings.Join(s, " ")
}

// toldMaps tells maps: each with the locals, the stack and what is live.
func toldMaps(l []maps.Map) string {
	var s []string
	for _, m := range l {
		s = append(s, strings.Join([]string{row(m.Locals), row(m.Stack), row(m.Live)}, "|"))
	}
	return strings.Join(s, " ")
}

func sameMap(a, b maps.Map) bool {
	return a.At == b.At && slices.Equal(a.Locals, b.Locals) && slices.Equal(a.Stack, b.Stack) && slices.Equal(a.Live, b.Live)
}

// brief is a text of x that is not too long to be read.
func brief(x any) string {
	return fmt.Sprintf("%.300s", fmt.Sprint(x))
}

// mustLive holds Live against a text.
func mustLive(t testing.TB, l []api.Inst, h []api.Handler, locals int, want string) {
	t.Helper()
	if got := maps.Live(l, h, locals); told(got) != want || len(got) != len(l) {
		t.Errorf("Live(%s, %s, %d): %s, want %s", brief(l), brief(h), locals, brief(told(got)), brief(want))
	}
}

// mustBe holds Live against what is said anew.
func mustBe(t testing.TB, l []api.Inst, h []api.Handler, locals int) {
	t.Helper()
	mustLive(t, l, h, locals, told(saidLive(l, h, locals)))
}

// mustMap holds Of and Roots against what is said anew, and answers what Of does.
func mustMap(t testing.TB, k *kin.Kin, c api.Class, n int) ([]maps.Map, api.Errno) {
	t.Helper()
	got, why := maps.Of(k, c, n)
	want, no := saidOf(k, c, n)
	if why != no || !slices.EqualFunc(got, want, sameMap) {
		t.Fatalf("Of(%+v, %d): %v, %v, want %v, %v", c, n, got, why, want, no)
	}
	for _, m := range got {
		mustRoot(t, m, saidRoots(m)...)
	}
	return got, why
}

func mustRoot(t testing.TB, m maps.Map, want ...int) {
	t.Helper()
	if got := maps.Roots(m); !slices.Equal(got, want) {
		t.Errorf("Roots(%v): %v, want %v", m, got, want)
	}
}

// read is the code of these bytes.
func read(t testing.TB, b ...byte) []api.Inst {
	t.Helper()
	l, why, at := code.Decode(b)
	if why != api.OK {
		t.Fatalf("%x: %v at %d", b, why, at)
	}
	return l
}

// laid says the places of instructions, one behind the other; a branch's A is a place already.
func laid(l ...api.Inst) []api.Inst {
	l = slices.Clone(l)
	at := 0
	for n := range l {
		l[n].At = at
		at += code.Size(l[n].Op)
	}
	return l
}

// end is the place behind the last instruction.
func end(l []api.Inst) int {
	return l[len(l)-1].At + code.Size(l[len(l)-1].Op)
}
