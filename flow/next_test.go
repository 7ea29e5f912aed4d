package flow_test

import (
	"math"
	"slices"
	"testing"

	"carafe/api"
	"carafe/code"
	"carafe/flow"
)

func mustNext(t *testing.T, l []api.Inst, n int, want ...int) {
	t.Helper()
	if got := flow.Next(l, n); !slices.Equal(got, want) {
		t.Errorf("Next(%.200v, %d): %v, want %v", l, n, got, want)
	}
}

// mustReach holds Reach against a text: + of what can be reached, - of what can't.
func mustReach(t *testing.T, l []api.Inst, h []api.Handler, want string) {
	t.Helper()
	got := ""
	for _, can := range flow.Reach(l, h) {
		if can {
			got += "+"
		} else {
			got += "-"
		}
	}
	if got != want {
		t.Errorf("Reach(%.200v, %.200v): %s, want %s", l, h, got, want)
	}
}

// mustDivide holds Blocks against what it must be.
func mustDivide(t *testing.T, l []api.Inst, h []api.Handler, want ...flow.Block) {
	t.Helper()
	if got := flow.Blocks(l, h); !slices.EqualFunc(got, want, sameBlock) {
		t.Errorf("Blocks(%.200v, %.200v): %v, want %v", l, h, got, want)
	}
}

// P6.2: of all operations, in the middle: whether it goes on, whether it branches, ahead, behind and to itself.
func TestNextOfEach(t *testing.T) {
	for op := range 256 {
		if code.Size(op) == 0 {
			continue
		}
		branch := op >= api.IfEq && op <= api.Goto || op == api.IfNull || op == api.IfSome
		end := op == api.Goto || op == api.IReturn || op == api.AReturn || op == api.Return || op == api.Throw
		for n, at := range map[int]int{0: 0, 1: 2, 2: 2 + code.Size(op), 3: 3 + code.Size(op)} {
			l := []api.Inst{{Op: api.Push1}, {At: 2, Op: op}, {At: 2 + code.Size(op)}, {At: 3 + code.Size(op), Op: api.Return}}
			var want []int
			if !end {
				want = append(want, 2)
			}
			if branch {
				l[1].A = at
				want = append(want, n)
			}
			slices.Sort(want)
			mustNext(t, l, 1, slices.Compact(want)...)
		}
	}
}

// P6.2: what is neither there nor within the code does not come next.
func TestNextOfNone(t *testing.T) {
	l := read(t, "\x00\x99\x00\x00\xb1\x00") // 0 nop, 1 ifeq 1, 4 return, 5 nop
	for n, want := range [][]int{{1}, {1, 2}, nil, nil} {
		mustNext(t, l, n, want...)
	}
	for _, n := range []int{-1, -2, 4, 5, 1 << 32, math.MinInt, math.MaxInt} {
		mustNext(t, l, n)
		mustNext(t, nil, n)
	}
	mustNext(t, l[:2], 1, 1)
	for _, a := range []int{-1, 1, 2, 4, 1000} { // nothing stands there
		mustNext(t, laid(t, api.Inst{Op: api.Goto, A: a}, api.Inst{Op: api.Return}), 0)
		mustNext(t, laid(t, api.Inst{Op: api.IfLe, A: a}, api.Inst{Op: api.Return}), 0, 1)
		mustNext(t, laid(t, api.Inst{Op: api.IfLe, A: a}), 0)
	}
}

// P6.3: what leads a block: targets also of what is never reached, what is behind a branch or an end, and a handler's places.
func TestBlocks(t *testing.T) {
	straight := read(t, "\x00\x00\x10\x05\x57\x00\xb1") // 0 and 1 nop, 2 push1, 4 pop, 5 nop, 6 return
	mustDivide(t, straight, nil, flow.Block{To: 6})
	mustDivide(t, straight, []api.Handler{{To: 7}}, flow.Block{To: 6})
	mustDivide(t, straight, []api.Handler{{From: 2, To: 5}}, flow.Block{To: 2, Next: []int{1}}, flow.Block{From: 2, To: 4, Next: []int{2}}, flow.Block{From: 4, To: 6})
	mustDivide(t, straight, []api.Handler{{To: 7, At: 6}}, flow.Block{To: 5, Next: []int{1}}, flow.Block{From: 5, To: 6})
	mustDivide(t, straight, []api.Handler{{From: 4, To: 7, At: 1}, {From: 4, To: 7, At: 4}}, flow.Block{To: 1, Next: []int{1}}, flow.Block{From: 1, To: 3, Next: []int{2}}, flow.Block{From: 3, To: 6})

	dead := laid(t, api.Inst{}, api.Inst{}, api.Inst{Op: api.Return}, api.Inst{}, api.Inst{Op: api.Goto, A: 1}) // 0 and 1 nop, 2 return, 3 nop, 4 goto 1
	mustDivide(t, dead, nil, flow.Block{To: 1, Next: []int{1}}, flow.Block{From: 1, To: 3}, flow.Block{From: 3, To: 5, Next: []int{1}})

	itself := laid(t, api.Inst{Op: api.IfEq, A: 0}, api.Inst{Op: api.IfEq, A: 6}, api.Inst{Op: api.Throw})
	mustDivide(t, itself, nil, flow.Block{To: 1, Next: []int{0, 1}}, flow.Block{From: 1, To: 2, Next: []int{2}}, flow.Block{From: 2, To: 3})
}

// P6.3: each operation that ends or branches ends its block, and no other one does.
func TestWhatEndsABlock(t *testing.T) {
	for op := range 256 {
		if code.Size(op) == 0 {
			continue
		}
		l := laid(t, api.Inst{Op: op}, api.Inst{Op: api.Return})
		want := 1
		if branches(op) || ends(op) {
			want = 2
		}
		if got := flow.Blocks(l, nil); len(got) != want {
			t.Errorf("Blocks of %s and return: %v", code.Name(op), got)
		}
	}
}

// P6.3: which ways there are, and which there aren't.
func TestReach(t *testing.T) {
	apart := read(t, "\x00\xb1\x00\xb1\x00\xb1") // three times nop, return
	for want, h := range map[string][]api.Handler{
		"++----": {{From: 2, To: 6, At: 4}, {From: 4, To: 5, At: 2}, {From: 3, To: 4}},
		"++--++": {{To: 1, At: 4}, {From: 2, To: 4, At: 2}},
		"++++++": {{From: 4, To: 5, At: 5}, {From: 3, To: 4, At: 4}, {From: 1, To: 2, At: 2}},
		"++++--": {{From: 1, To: 3, At: 2}, {From: 4, To: 6, At: 4}},
		"++-+--": {{From: 1, To: 6, At: 3}, {From: 2, To: 3, At: 4}},
		"++---+": {{From: 0, To: 1, At: 5}},
	} {
		mustReach(t, apart, h, want)
	}
	mustReach(t, apart, nil, "++----")
	mustReach(t, laid(t, api.Inst{Op: api.Goto, A: 4}, api.Inst{Op: api.Return}, api.Inst{Op: api.Goto, A: 0}), nil, "+-+")
	mustReach(t, laid(t, api.Inst{Op: api.IfEq, A: 4}, api.Inst{Op: api.Return}, api.Inst{Op: api.Goto, A: 0}), nil, "+++")
	mustReach(t, read(t, "\xa7\x00\x00\xb1"), nil, "+-")
	mustReach(t, read(t, "\xa7\x00\x00\xb1"), []api.Handler{{To: 3, At: 3}}, "++")
}

// P6.3: a handler reaches up to its To, without it, and from its From on.
func TestReachAtTheEdges(t *testing.T) {
	l := read(t, "\xa7\x00\x03\xa7\x00\x04\x00\xb1\xb1") // 0 goto 3, 3 goto 7, 6 nop, 7 return, 8 return
	mustReach(t, l, nil, "++-+-")
	mustReach(t, l, []api.Handler{{From: 6, To: 7, At: 8}}, "++-+-")
	mustReach(t, l, []api.Handler{{From: 6, To: 8, At: 8}}, "++-++")
	mustReach(t, l, []api.Handler{{From: 7, To: 8, At: 8}}, "++-++")
	mustReach(t, l, []api.Handler{{From: 8, To: 9, At: 6}}, "++-+-")
	mustReach(t, l, []api.Handler{{From: 3, To: 6, At: 6}}, "++++-")
	mustReach(t, l, []api.Handler{{To: 9, At: 8}}, "++-++")
}

// P6.3: as much code as there may be, in a line, in a ladder of branches, and all apart but for handlers.
func TestLongCode(t *testing.T) {
	line := make([]api.Inst, 1024)
	line[1023].Op = api.Return
	line = laid(t, line...)
	mustBe(t, line, nil, nil)
	ladder := make([]api.Inst, 341)
	for n := range ladder {
		ladder[n] = api.Inst{Op: api.Goto, A: (n*100 + 1) % 341 * 3}
	}
	ladder = laid(t, ladder...)
	mustBe(t, ladder, nil, nil)
	apart := make([]api.Inst, 1024)
	h := make([]api.Handler, 0, 64)
	for n := range apart {
		apart[n].Op = api.Return
	}
	for n := range 64 {
		h = append(h, api.Handler{From: n * 16, To: n*16 + 1, At: (n + 1) * 16 % 1024})
	}
	apart = laid(t, apart...)
	mustBe(t, apart, h, nil)
	slices.Reverse(h)
	mustBe(t, apart, h, nil)
}
