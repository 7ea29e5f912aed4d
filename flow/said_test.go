package flow_test

import (
	"math/rand"
	"slices"
	"testing"

	"carafe/api"
	"carafe/code"
	"carafe/flow"
)

// What follows says the chapter anew, by places and sets of them.

type set map[int]bool

func branches(op int) bool { return op >= 153 && op <= 167 || op == 198 || op == 199 }

func ends(op int) bool { return slices.Contains([]int{167, 172, 176, 177, 191}, op) }

// numbers is the number of each place where an instruction stands.
func numbers(l []api.Inst) map[int]int {
	m := map[int]int{}
	for n, i := range l {
		m[i.At] = n
	}
	return m
}

// behind is the place where the code of l ends.
func behind(l []api.Inst) int {
	b, _ := code.Encode(l)
	return len(b)
}

// checked says P6.1 anew.
func checked(l []api.Inst, h []api.Handler, frames []api.Frame) (api.Errno, int) {
	if len(l) == 0 {
		return api.ErrFall, 0
	}
	at := numbers(l)
	none := func(place int) bool { _, ok := at[place]; return !ok }
	for _, i := range l {
		if branches(i.Op) && none(i.A) {
			return api.ErrTarget, i.At
		}
	}
	if i := l[len(l)-1]; !ends(i.Op) {
		return api.ErrFall, i.At
	}
	for _, x := range h {
		if none(x.From) || none(x.At) || none(x.To) && x.To != behind(l) || x.From >= x.To {
			return api.ErrTarget, x.From
		}
	}
	for n, f := range frames {
		if none(f.At) {
			return api.ErrTarget, f.At
		}
		for _, ahead := range frames[:n] {
			if ahead.At >= f.At {
				return api.ErrFrame, f.At
			}
		}
	}
	return api.OK, 0
}

// nexts says P6.2 anew: a set of numbers, told rising.
func nexts(l []api.Inst, n int) []int {
	var next []int
	for k := range l {
		falls := k == n+1 && !ends(l[n].Op)
		jumps := branches(l[n].Op) && l[n].A == l[k].At
		if falls || jumps {
			next = append(next, k)
		}
	}
	return next
}

// blocks says P6.3 anew: of each number the block, then of each block its last one's nexts.
func blocks(l []api.Inst, h []api.Handler) []flow.Block {
	leads := set{}
	for n, i := range l {
		if n == 0 || branches(l[n-1].Op) || ends(l[n-1].Op) {
			leads[i.At] = true
		}
		if branches(i.Op) {
			leads[i.A] = true
		}
	}
	for _, x := range h {
		leads[x.From], leads[x.To], leads[x.At] = true, true, true
	}
	var all []flow.Block
	block := map[int]int{}
	for n, i := range l {
		if leads[i.At] {
			all = append(all, flow.Block{From: n})
		}
		all[len(all)-1].To = n + 1
		block[n] = len(all) - 1
	}
	for k, b := range all {
		for _, n := range nexts(l, b.To-1) {
			all[k].Next = append(all[k].Next, block[n])
		}
	}
	return all
}

// reached says P6.3 anew: what is reached grows by sweeps until nothing comes to it.
func reached(l []api.Inst, h []api.Handler) []bool {
	can := make([]bool, len(l))
	if len(l) > 0 {
		can[0] = true
	}
	at := numbers(l)
	for grew := true; grew; {
		grew = false
		add := func(n int) {
			grew = grew || !can[n]
			can[n] = true
		}
		for n, i := range l {
			if !can[n] {
				continue
			}
			for _, k := range nexts(l, n) {
				add(k)
			}
			for _, x := range h {
				if k, ok := at[x.At]; ok && x.From <= i.At && i.At < x.To {
					add(k)
				}
			}
		}
	}
	return can
}

func sameBlock(a, b flow.Block) bool {
	return a.From == b.From && a.To == b.To && slices.Equal(a.Next, b.Next)
}

// mustCheck holds Check against what it must be.
func mustCheck(t *testing.T, l []api.Inst, h []api.Handler, frames []api.Frame, want api.Errno, place int) {
	t.Helper()
	if why, at := flow.Check(l, h, frames); why != want || at != place {
		t.Errorf("Check(%.200v, %.200v, %.200v): %v at %d, want %v at %d", l, h, frames, why, at, want, place)
	}
}

// mustBe holds all that is promised of some code against what is said anew.
func mustBe(t *testing.T, l []api.Inst, h []api.Handler, frames []api.Frame) {
	t.Helper()
	why, at := checked(l, h, frames)
	mustCheck(t, l, h, frames, why, at)
	for n := range l {
		if got, want := flow.Next(l, n), nexts(l, n); !slices.Equal(got, want) {
			t.Errorf("Next(%.200v, %d): %v, want %v", l, n, got, want)
		}
	}
	if why, _ := checked(l, h, nil); why != api.OK {
		return
	}
	if got, want := flow.Blocks(l, h), blocks(l, h); !slices.EqualFunc(got, want, sameBlock) {
		t.Errorf("Blocks(%.200v, %.200v): %.200v, want %.200v", l, h, got, want)
	}
	if got, want := flow.Reach(l, h), reached(l, h); !slices.Equal(got, want) {
		t.Errorf("Reach(%.200v, %.200v): %.200v, want %.200v", l, h, got, want)
	}
}

// read is the code of these bytes.
func read(t *testing.T, b string) []api.Inst {
	t.Helper()
	l, why, at := code.Decode([]byte(b))
	if why != api.OK {
		t.Fatalf("%x: %v at %d", b, why, at)
	}
	return l
}

// laid is the code of these instructions, each where the ones ahead end. A branch's A is a place already.
func laid(t *testing.T, l ...api.Inst) []api.Inst {
	t.Helper()
	at := 0
	for n := range l {
		l[n].At = at
		at += code.Size(l[n].Op)
	}
	b, why := code.Encode(l)
	if why != api.OK {
		t.Fatalf("%v: %v", l, why)
	}
	return read(t, string(b))
}

// P6.1, P6.2, P6.3: all code of up to three instructions, one of each kind, with each target in it, around it and behind it.
func TestShortCode(t *testing.T) {
	kinds := []api.Inst{{Op: api.Nop}, {Op: api.Push1}, {Op: api.Return}, {Op: api.Throw}}
	for at := -1; at <= 10; at++ {
		kinds = append(kinds, api.Inst{Op: api.Goto, A: at}, api.Inst{Op: api.IfEq, A: at}, api.Inst{Op: api.IfSome, A: at})
	}
	mustBe(t, nil, nil, nil)
	for _, a := range kinds {
		mustBe(t, laid(t, a), nil, nil)
		for _, b := range kinds {
			mustBe(t, laid(t, a, b), nil, nil)
			for _, c := range kinds {
				mustBe(t, laid(t, a, b, c), nil, nil)
			}
		}
		if t.Failed() {
			return
		}
	}
}

// some code that Check lets by: parts that lie apart, ways back and forth, more than one size.
func some(t *testing.T) [][]api.Inst {
	return [][]api.Inst{
		read(t, "\xb1"),
		read(t, "\x00\xb1\x10\x05\xac\x01\xbf"),
		laid(t, api.Inst{Op: api.Const0}, api.Inst{Op: api.IfEq, A: 7}, api.Inst{Op: api.Goto, A: 0}, api.Inst{Op: api.Return}, api.Inst{Op: api.Nop}, api.Inst{Op: api.Return}),
		laid(t, api.Inst{Op: api.Goto, A: 4}, api.Inst{Op: api.Return}, api.Inst{Op: api.ILoad}, api.Inst{Op: api.IfNull, A: 4}, api.Inst{Op: api.Throw}),
	}
}

// P6.1, P6.3: each handler over some code, also with one ahead of it.
func TestEachHandler(t *testing.T) {
	for _, l := range some(t) {
		last := behind(l) + 1
		for from := -1; from <= last; from++ {
			for to := -1; to <= last; to++ {
				for at := -1; at <= last; at++ {
					x := api.Handler{From: from, To: to, At: at}
					mustBe(t, l, []api.Handler{x}, nil)
					mustBe(t, l, []api.Handler{{To: behind(l), At: l[len(l)-1].At}, x}, nil)
					mustBe(t, l, []api.Handler{{From: l[len(l)-1].At, To: behind(l)}, x}, []api.Frame{{At: to}})
				}
			}
		}
	}
}

// P6.1: all lists of up to three frames, where some stand and where none does.
func TestEachFrame(t *testing.T) {
	for _, l := range some(t) {
		last := behind(l) + 1
		for a := -1; a <= last; a++ {
			mustBe(t, l, nil, []api.Frame{{At: a}})
			for b := -1; b <= last; b++ {
				mustBe(t, l, nil, []api.Frame{{At: a}, {At: b}})
				for c := -1; c <= last; c++ {
					mustBe(t, l, nil, []api.Frame{{At: a}, {At: b}, {At: c}})
				}
			}
		}
	}
}

// anyCode is code of up to so many bytes, of all operations: its branches go to where some instruction stands.
func anyCode(r *rand.Rand, most int) []api.Inst {
	var l []api.Inst
	end := 0
	for {
		op := r.Intn(256)
		if r.Intn(8) == 0 {
			op = api.Goto + r.Intn(11)
		}
		size := code.Size(op)
		if end+size >= most {
			break
		}
		if size > 0 {
			l = append(l, api.Inst{At: end, Op: op})
			end += size
		}
	}
	l = append(l, api.Inst{At: end, Op: api.Return})
	for n, i := range l {
		if branches(i.Op) {
			l[n].A = l[r.Intn(len(l))].At
		}
	}
	return l
}

// anyHandlers are some that are right.
func anyHandlers(r *rand.Rand, l []api.Inst) []api.Handler {
	var h []api.Handler
	for range r.Intn(6) {
		from := r.Intn(len(l))
		to := from + 1 + r.Intn(min(9, len(l)-from))
		x := api.Handler{From: l[from].At, To: behind(l), At: l[r.Intn(len(l))].At}
		if to < len(l) {
			x.To = l[to].At
		}
		h = append(h, x)
	}
	return h
}

// anyFrames are some that are right.
func anyFrames(r *rand.Rand, l []api.Inst) []api.Frame {
	var frames []api.Frame
	for _, i := range l {
		if r.Intn(5) == 0 {
			frames = append(frames, api.Frame{At: i.At})
		}
	}
	return frames
}

// spoil changes one number of what it is given, mostly by little.
func spoil(r *rand.Rand, l []api.Inst, h []api.Handler, frames []api.Frame) {
	all := []*int{}
	for n := range l {
		if branches(l[n].Op) {
			all = append(all, &l[n].A)
		}
	}
	for n := range h {
		all = append(all, &h[n].From, &h[n].To, &h[n].At)
	}
	for n := range frames {
		all = append(all, &frames[n].At)
	}
	if len(all) > 0 {
		*all[r.Intn(len(all))] += r.Intn(9) - 4
	}
}

// P6.1, P6.2, P6.3: code by the thousand, right first, then less and less so.
func TestMany(t *testing.T) {
	r := rand.New(rand.NewSource(6))
	for round := range 3000 {
		most := 40
		if round%20 == 0 {
			most = 1024
		}
		l := anyCode(r, most)
		h, frames := anyHandlers(r, l), anyFrames(r, l)
		mustCheck(t, l, h, frames, api.OK, 0)
		for range 4 {
			mustBe(t, l, h, frames)
			spoil(r, l, h, frames)
		}
		mustBe(t, l[:len(l)-1], nil, nil)
		if t.Failed() {
			return
		}
	}
}

// P6.1, P6.2, P6.3: whatever the bytes, and whatever the handler.
func FuzzFlow(f *testing.F) {
	for _, s := range []string{"", "\x00", "\xb1\xb1", "\xa7\x00\x03\xa7\xff\xfd", "\xa7\x00\x00", "\x03\x99\x00\x07\x03\xa7\xff\xfb\x00\xb1"} {
		f.Add([]byte(s), 0, 1, 0, 1)
		f.Add([]byte(s), 1, len(s), 0, 4)
	}
	f.Fuzz(func(t *testing.T, b []byte, from, to, at, frame int) {
		l, why, _ := code.Decode(b)
		if why == api.OK {
			mustBe(t, l, []api.Handler{{From: from, To: to, At: at}}, []api.Frame{{At: 0}, {At: frame}})
			mustBe(t, l, nil, nil)
		}
	})
}
