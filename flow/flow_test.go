package flow_test

import (
	"math"
	"math/rand"
	"slices"
	"testing"

	"carafe/api"
	"carafe/code"
	"carafe/flow"
)

func mustFind(t *testing.T, l []api.Inst, at, want int) {
	t.Helper()
	if got := flow.Find(l, at); got != want {
		t.Errorf("Find(%.200v, %d): %d, want %d", l, at, got, want)
	}
}

// P6.1: each place of some code, within its instructions, ahead of them and behind them.
func TestFind(t *testing.T) {
	l := read(t, "\x10\x01\x00\xa7\xff\xfd\xb1")
	for at, want := range []int{0, -1, 1, 2, -1, -1, 3, -1, -1} {
		mustFind(t, l, at, want)
	}
	for _, at := range []int{-1, -2, 1024, math.MinInt, math.MaxInt, 1 << 32, 1<<32 + 2} {
		mustFind(t, l, at, -1)
		mustFind(t, nil, at, -1)
	}
	mustFind(t, nil, 0, -1)
	mustFind(t, []api.Inst{}, 0, -1)
	mustFind(t, l[:2], 3, -1)
	full := make([]byte, 1024)
	for at := range full {
		mustFind(t, read(t, string(full)), at, at)
	}
	mustFind(t, read(t, string(full)), 1024, -1)
}

// P6.1, P6.2, P6.3: the chapter's runs and examples.
func TestRuns(t *testing.T) {
	mustCheck(t, read(t, "\x00"), nil, nil, api.ErrFall, 0)
	mustDivide(t, read(t, "\xa7\x00\x03\xa7\xff\xfd"), nil, flow.Block{From: 0, To: 1, Next: []int{1}}, flow.Block{From: 1, To: 2, Next: []int{0}})
	mustReach(t, read(t, "\xb1\xb1"), nil, "+-")
	for at := range 2 {
		mustCheck(t, read(t, "\x00\xb1"), []api.Handler{{From: at, To: at, At: at}}, nil, api.ErrTarget, at)
	}
	mustNext(t, read(t, "\xa7\x00\x00"), 0, 0)
	mustFind(t, read(t, "\x10\x05"), 1, -1)
}

// P6.1: which last instruction lets code end, of all operations.
func TestLast(t *testing.T) {
	for op := range 256 {
		if code.Size(op) == 0 {
			continue
		}
		l := laid(t, api.Inst{Op: api.Push1}, api.Inst{Op: op})
		want, at := api.ErrFall, 2
		switch op {
		case api.Goto, api.IReturn, api.AReturn, api.Return, api.Throw:
			want, at = api.OK, 0
		}
		mustCheck(t, l, nil, nil, want, at)
	}
}

// P6.1: what is a branch, and where it may go, of all operations: into the code, to where an instruction begins, not to the end.
func TestTargets(t *testing.T) {
	for op := range 256 {
		if code.Size(op) < 3 || op == api.Inc {
			continue
		}
		branch := op >= api.IfEq && op <= api.Goto || op == api.IfNull || op == api.IfSome
		for _, a := range []int{-32000, -1, 0, 1, 2, 3, 4, 5, 6, 7, 32000} {
			l := []api.Inst{{Op: api.Push1}, {At: 2, Op: op, A: a}, {At: 5, Op: api.Return}}
			if stands := a == 0 || a == 2 || a == 5; branch && !stands {
				mustCheck(t, l, nil, nil, api.ErrTarget, 2)
			} else {
				mustCheck(t, l, nil, nil, api.OK, 0)
			}
		}
	}
}

// P6.1, R8: of several refusals the one that is named first; of several places the first.
func TestOrderOfRefusals(t *testing.T) {
	right := read(t, "\x00\xa7\xff\xff\xb1")          // 0 nop, 1 goto 0, 4 return
	falls := read(t, "\x00\xa7\xff\xff\x00")          // 4 nop
	lost := read(t, "\x00\xa7\xff\xfe\xa7\x00\x01")   // 1 goto -1, 4 goto 5
	both := read(t, "\x00\x99\x00\x01\x99\x00\x03")   // 1 ifeq 2, 4 ifeq 7: it falls too
	behind := read(t, "\x00\xb1\xa7\x00\x03\x00\x00") // 2 goto 5, and it falls at 6
	badHandlers := []api.Handler{{From: 1, To: 5, At: 4}, {From: 4, To: 4, At: 4}, {From: 7, To: 8, At: 0}}
	badFrames := []api.Frame{{At: 0}, {At: 2}, {At: 1}, {At: 1}}
	for _, h := range [][]api.Handler{nil, badHandlers} {
		for _, frames := range [][]api.Frame{nil, badFrames, badFrames[2:]} {
			mustCheck(t, nil, h, frames, api.ErrFall, 0)
			mustCheck(t, falls, h, frames, api.ErrFall, 4)
			mustCheck(t, lost, h, frames, api.ErrTarget, 1)
			mustCheck(t, lost[:2], h, frames, api.ErrTarget, 1)
			mustCheck(t, both, h, frames, api.ErrTarget, 1)
			mustCheck(t, behind, h, frames, api.ErrFall, 6)
		}
	}
	mustCheck(t, both[2:], nil, nil, api.ErrTarget, 4)
	mustCheck(t, right, badHandlers, badFrames, api.ErrTarget, 4)
	mustCheck(t, right, badHandlers[:1], badFrames, api.ErrTarget, 2)
	mustCheck(t, right, badHandlers[2:], badFrames[2:], api.ErrTarget, 7)
	mustCheck(t, right, nil, badFrames[2:], api.ErrFrame, 1)
	mustCheck(t, right, nil, badFrames[:1], api.OK, 0)
}

// P6.1: what a handler may be over, and where it may take what is thrown; its place is told as it is given.
func TestHandlers(t *testing.T) {
	l := read(t, "\x10\x05\x57\xb1") // 0 push1, 2 pop, 3 return; the end is 4
	for _, x := range []api.Handler{{From: 0, To: 2}, {From: 0, To: 4, At: 3}, {From: 2, To: 3, At: 2}, {From: 3, To: 4, At: 0}, {To: 3, At: 2, Type: "1"}} {
		mustCheck(t, l, []api.Handler{x}, nil, api.OK, 0)
	}
	for _, x := range []api.Handler{
		{}, {From: 1, To: 4}, {From: -1, To: 4}, {From: 4, To: 5}, {From: 4, To: 4}, {From: 9, To: 4},
		{To: 1}, {To: 5}, {To: -1}, {To: math.MaxInt}, {To: math.MinInt}, {From: 2, To: 2, At: 3}, {From: 3, To: 2, At: 3},
		{To: 4, At: 1}, {To: 4, At: 4}, {To: 4, At: -1}, {From: 3, To: 4, At: math.MaxInt}, {From: math.MinInt, To: 4}, {From: math.MaxInt, To: 4},
	} {
		mustCheck(t, l, []api.Handler{x}, nil, api.ErrTarget, x.From)
		mustCheck(t, l, []api.Handler{{To: 4}, x, {From: 9}}, []api.Frame{{At: 9}}, api.ErrTarget, x.From)
	}
}

// P6.1: frames rise, each at an instruction.
func TestFrames(t *testing.T) {
	l := read(t, "\x10\x05\x57\xb1") // 0 push1, 2 pop, 3 return
	at := func(places ...int) []api.Frame {
		var frames []api.Frame
		for _, p := range places {
			frames = append(frames, api.Frame{At: p, Locals: []string{"I"}, Stack: []string{"bad"}})
		}
		return frames
	}
	for _, frames := range [][]api.Frame{at(), at(0), at(3), at(0, 2, 3), at(0, 3)} {
		mustCheck(t, l, nil, frames, api.OK, 0)
	}
	for place, frames := range map[int][]api.Frame{
		0: at(2, 0), 2: at(0, 2, 2), 3: at(3, 3, 9),
	} {
		mustCheck(t, l, nil, frames, api.ErrFrame, place)
	}
	for place, frames := range map[int][]api.Frame{
		1: at(2, 1), 4: at(0, 4), -1: at(-1), math.MaxInt: at(3, math.MaxInt), math.MinInt: at(0, math.MinInt, 0),
	} {
		mustCheck(t, l, nil, frames, api.ErrTarget, place)
	}
}

// odd is a list that code.Decode answers of no bytes.
func odd(r *rand.Rand) []api.Inst {
	numbers := []int{math.MinInt, -32768, -1, 0, 1, 2, 3, 9, 167, 177, 1 << 32, math.MaxInt - 1, math.MaxInt}
	pick := func() int { return numbers[r.Intn(len(numbers))] }
	l := make([]api.Inst, r.Intn(6))
	for n := range l {
		l[n] = api.Inst{At: pick(), Op: pick(), A: pick(), B: pick()}
		if r.Intn(2) == 0 {
			l[n].Op = api.IfEq + r.Intn(20)
		}
	}
	return l
}

// R1: of lists that code.Decode never answers all calls end, and what they answer is of the list.
func TestOddLists(t *testing.T) {
	r := rand.New(rand.NewSource(7))
	for range 20000 {
		l := odd(r)
		var h []api.Handler
		var frames []api.Frame
		for _, i := range odd(r) {
			h = append(h, api.Handler{From: i.At, To: i.A, At: i.B})
			frames = append(frames, api.Frame{At: i.At})
		}
		flow.Check(l, h, frames)
		for _, n := range []int{math.MinInt, -1, 0, 1, 2, 5, 6, math.MaxInt} {
			for _, next := range flow.Next(l, n) {
				if next < 0 || next >= len(l) || n < 0 || n >= len(l) {
					t.Fatalf("Next(%v, %d): %d", l, n, next)
				}
			}
			if at := flow.Find(l, n); at < -1 || at >= len(l) {
				t.Fatalf("Find(%v, %d): %d", l, n, at)
			}
		}
		flow.Blocks(l, h)
		if got := flow.Reach(l, h); len(got) != len(l) {
			t.Fatalf("Reach(%v, %v): %v", l, h, got)
		}
	}
}

// R1, R4: nil and empty lists mean the same, for all calls.
func TestNothing(t *testing.T) {
	l := read(t, "\xb1")
	for _, none := range [][]api.Inst{nil, {}} {
		mustCheck(t, none, nil, nil, api.ErrFall, 0)
		mustNext(t, none, 0)
		mustDivide(t, none, nil)
		mustReach(t, none, nil, "")
		mustDivide(t, none, []api.Handler{{To: 1}})
		mustReach(t, none, []api.Handler{{To: 1}}, "")
	}
	for _, h := range [][]api.Handler{nil, {}} {
		mustCheck(t, l, h, nil, api.OK, 0)
		mustCheck(t, l, h, []api.Frame{}, api.OK, 0)
		mustDivide(t, l, h, flow.Block{To: 1})
		mustReach(t, l, h, "+")
	}
}

// R2, R5: what is handed in stays as it is, and what is behind a list's length is neither read nor written.
func TestLeavesWhatIsGiven(t *testing.T) {
	l := read(t, "\x03\x99\x00\x06\xa7\xff\xfc\xb1\xa7\x00\x63") // 0 const0, 1 ifeq 7, 4 goto 0, 7 return; behind it 8 goto 107
	h := []api.Handler{{To: 8, At: 7, Type: "A"}, {From: 1, To: 9, At: 9}}
	frames := []api.Frame{{At: 0}, {At: 7}, {At: 9}}
	wasL, wasH := slices.Clone(l), slices.Clone(h)
	mustCheck(t, l[:4], h[:1], frames[:2], api.OK, 0)
	mustNext(t, l[:4], 3)
	mustNext(t, l[:3], 1, 2)
	mustNext(t, l[:3], 3)
	mustFind(t, l[:4], 8, -1)
	mustDivide(t, l[:4], h[:1], flow.Block{To: 2, Next: []int{1, 2}}, flow.Block{From: 2, To: 3, Next: []int{0}}, flow.Block{From: 3, To: 4})
	mustReach(t, l[:4], h[:1], "++++")
	if !slices.Equal(l, wasL) || !slices.Equal(h, wasH) || frames[0].At != 0 || frames[1].At != 7 || frames[2].At != 9 {
		t.Errorf("changed: %v, %v, %v", l, h, frames)
	}
}

// fill writes into all of a list, its spare room too.
func fill[T any](l []T, x T) {
	l = l[:cap(l)]
	for n := range l {
		l[n] = x
	}
}

// R2: answers are new memory: what is done to one shows neither in another nor in another list of the same answer.
func TestAnswersAreNew(t *testing.T) {
	l := read(t, "\x03\x99\x00\x06\xa7\xff\xfc\xb1")
	h := []api.Handler{{To: 8, At: 7}}
	next, parts, can := flow.Next(l, 1), flow.Blocks(l, h), flow.Reach(l, h)
	fill(flow.Next(l, 1), 99)
	fill(flow.Reach(l, h), false)
	spoilt := flow.Blocks(l, h)
	for _, b := range spoilt {
		fill(b.Next, 99)
	}
	fill(spoilt, flow.Block{From: 99})
	if !slices.Equal(next, nexts(l, 1)) || !slices.EqualFunc(parts, blocks(l, h), sameBlock) || !slices.Equal(can, reached(l, h)) {
		t.Errorf("answers share memory: %v, %v, %v", next, parts, can)
	}
	for n := range parts {
		fill(parts[n].Next, 99)
		for k, b := range blocks(l, h)[n+1:] {
			if !sameBlock(parts[n+1+k], b) {
				t.Errorf("lists of one answer share memory: %v", parts)
			}
		}
	}
	mustBe(t, l, h, nil)
}
