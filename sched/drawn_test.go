package sched_test

import (
	"math"
	"math/rand"
	"slices"
	"testing"

	"carafe/api"
	"carafe/sched"
)

// source gives out bytes, and 0 where none are left.
type source []byte

func (s *source) below(n int) int {
	if len(*s) == 0 {
		return 0
	}
	b := int((*s)[0])
	*s = (*s)[1:]
	return b % n
}

// call draws one call: what, of which thread, with what; most threads are Ready ones.
func (s *source) call(p *pair) (string, int, int) {
	what := []string{"enter", "enter", "enter", "enter", "exit", "exit", "wait", "wait", "notify", "notifyAll", "sleep", "sleep", "tick", "tick", "start", "join", "end"}[s.below(17)]
	if what == "end" && s.below(3) > 0 {
		what = "tick"
	}
	t, ok := p.s.Pick(s.below(8))
	if !ok || s.below(8) == 0 {
		t = s.below(11) - 1
	}
	n := s.below(3)
	switch {
	case s.below(6) == 0:
		n = s.below(12) - 1
	case what == "sleep" && s.below(9) == 0:
		n = []int{math.MaxInt, math.MinInt, math.MaxInt - 1, math.MaxInt32 + 1}[s.below(4)]
	case what == "wait" || what == "exit" || what == "notify" || what == "notifyAll":
		n = s.held(p, t, n)
	}
	return what, t, n
}

// held answers the number of a lock that t has, if it has one of those that tests ask for, else n.
func (s *source) held(p *pair, t, n int) int {
	start := s.below(len(locks))
	for i := range locks {
		at := (start + i) % len(locks)
		if owner, _ := p.s.Owner(locks[at]); owner == t {
			return at
		}
	}
	return n
}

// played does what data says, and answers how many calls were refused, and of how many threads each lasted.
func played(t *testing.T, data []byte) (refusals int, states [7]int) {
	p, s := newPair(), source(data)
	for range 1 + s.below(8) {
		p.must(t, "start", 0, 0)
	}
	for len(s) > 0 {
		what, thread, n := s.call(p)
		if refused(p.must(t, what, thread, n)) {
			refusals++
		}
		for x := range 8 {
			states[p.s.State(x)]++
		}
	}
	return refusals, states
}

// P17.1, P17.2, P17.3, P17.4: whatever is called, all is answered as the chapter says.
func TestDrawn(t *testing.T) {
	r := rand.New(rand.NewSource(17))
	refusals, states := 0, [7]int{}
	for n := range 400 {
		data := make([]byte, 100+n*3)
		r.Read(data)
		a, b := played(t, data)
		refusals += a
		for i, n := range b {
			states[i] += n
		}
	}
	if refusals < 2000 || slices.Min(states[1:]) < 2000 {
		t.Errorf("%d refused; states %v", refusals, states)
	}
}

// P17.1, P17.2, P17.3, P17.4: as TestDrawn.
func FuzzSched(f *testing.F) {
	r := rand.New(rand.NewSource(1))
	for range 20 {
		data := make([]byte, 300)
		r.Read(data)
		f.Add(data)
	}
	f.Fuzz(func(t *testing.T, data []byte) {
		played(t, data[:min(len(data), 1000)])
	})
}

// P17.5: by what the calls answer alone: while somebody has a lock nobody else gets it, and who is Blocked gets it in the order in which they came.
func TestInTurn(t *testing.T) {
	r := rand.New(rand.NewSource(5))
	turns := 0
	for range 200 {
		s := some(t, 2+r.Intn(7))
		queue := map[int64][]int{}
		check := func() {
			for lock, l := range queue {
				owner, n := s.Owner(lock)
				if len(l) > 0 && (owner == l[0] || owner < 0) {
					if owner < 0 || n != 1 || s.State(owner) != sched.Ready {
						t.Fatalf("lock %d: %d, %d", lock, owner, n)
					}
					queue[lock] = l[1:]
					turns++
				}
				for _, x := range queue[lock] {
					if s.State(x) != sched.Blocked || owner == x {
						t.Fatalf("lock %d: %d is ahead of its turn", lock, x)
					}
				}
			}
		}
		for range 200 {
			x, ok := s.Pick(r.Int())
			if !ok {
				break
			}
			lock := int64(r.Intn(4) - 1)
			for higher := lock + 1; higher < 3; higher++ { // locks are taken rising, so that no circle ends the test early
				if owner, _ := s.Owner(higher); owner == x {
					lock = higher
				}
			}
			before, n := s.Owner(lock)
			switch r.Intn(12) {
			case 0, 1, 2, 3, 4:
				got, why := s.Enter(x, lock)
				after, m := s.Owner(lock)
				if why != api.OK || got != (before < 0 || before == x) || got && (after != x || m != n+1) || !got && (after != before || m != n) {
					t.Fatalf("Enter(%d, %d): %v, %v; %d, %d, then %d, %d", x, lock, got, why, before, n, after, m)
				}
				if !got {
					queue[lock] = append(queue[lock], x)
				}
			case 5, 6, 7, 8, 9, 10:
				if why := s.Exit(x, lock); (why == api.OK) != (before == x) {
					t.Fatalf("Exit(%d, %d): %v", x, lock, why)
				}
			case 11:
				if r.Intn(40) == 0 {
					s.End(x)
				}
			}
			check()
		}
	}
	if turns < 1000 {
		t.Errorf("only %d turns", turns)
	}
}
