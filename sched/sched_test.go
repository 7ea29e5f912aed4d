package sched_test

import (
	"fmt"
	"math"
	"slices"
	"strings"
	"testing"

	"carafe/api"
	"carafe/sched"
)

func some(t *testing.T, n int) *sched.Sched {
	t.Helper()
	s := sched.New()
	for i := range n {
		if x, why := s.Start(); x != i || why != api.OK {
			t.Fatalf("Start: %d, %v", x, why)
		}
	}
	return s
}

func states(s *sched.Sched) string {
	text := ""
	for t := 0; s.State(t) != 0; t++ {
		text += "?RBWSJD"[s.State(t) : s.State(t)+1]
	}
	return text
}

// run does a text of calls, apart by ";", on a Sched of n threads and on what is said anew. Locks are told by their places in the list of the tests.
func run(t *testing.T, n int, text string) *pair {
	t.Helper()
	p := newPair()
	for range n {
		p.must(t, "start", 0, 0)
	}
	p.all(t, text)
	return p
}

func (p *pair) all(t *testing.T, text string) {
	t.Helper()
	for _, one := range strings.Split(text, ";") {
		var what string
		var thread, n int
		fmt.Sscan(one, &what, &thread, &n)
		if what != "" {
			p.must(t, what, thread, n)
		}
	}
}

// mustStand holds what threads are, and who owns locks, against what is wanted, written as "RRB", "5: 0 1".
func (p *pair) mustStand(t *testing.T, want ...string) {
	t.Helper()
	got := []string{states(p.s)}
	for _, lock := range slices.Sorted(slices.Values(locks)) {
		if owner, n := p.s.Owner(lock); owner >= 0 {
			got = append(got, fmt.Sprintf("%d: %d %d", lock, owner, n))
		} else if owner != -1 || n != 0 {
			t.Errorf("Owner of a free lock: %d, %d", owner, n)
		}
	}
	if fmt.Sprint(got) != fmt.Sprint(want) {
		t.Errorf("%q: %q, want %q", p.log, got, want)
	}
}

func mustOver(t *testing.T, s *sched.Sched, over, stuck bool) {
	t.Helper()
	if a, b := s.Over(); a != over || b != stuck {
		t.Errorf("%s: Over: %v, %v", states(s), a, b)
	}
}

// P17.2, P17.3: the chapter's runs.
func TestRuns(t *testing.T) {
	s := some(t, 2)
	a, why := s.Enter(0, 5)
	b, reason := s.Enter(1, 5)
	if !a || why != api.OK || b || reason != api.OK {
		t.Errorf("Enter: %v, %v; %v, %v", a, why, b, reason)
	}
	why = s.Exit(0, 5)
	if owner, n := s.Owner(5); owner != 1 || n != 1 || why != api.OK {
		t.Errorf("Owner: %d, %d; %v", owner, n, why)
	}
	if why := some(t, 1).Wait(0, 5); why != api.ErrState {
		t.Errorf("Wait: %v", why)
	}
	s = some(t, 1)
	why = s.Sleep(0, 2)
	x, y := s.Tick(), s.Tick()
	if why != api.OK || len(x) != 0 || len(y) != 1 || y[0] != 0 {
		t.Errorf("%v; Tick: %v, %v", why, x, y)
	}
}

// P17.1, P17.3: the chapter's examples.
func TestExamples(t *testing.T) {
	s := some(t, 3)
	a, _ := s.Pick(-1)
	if b, _ := s.Pick(0); a != 0 || b != 0 {
		t.Errorf("Pick: %d, %d", a, b)
	}
	p := run(t, 2, "join 0 0; end 1; tick; tick")
	p.mustStand(t, "JD")
	mustOver(t, p.s, false, true)
	s = some(t, 1)
	s.Enter(0, 3)
	if one, all := s.Notify(0, 3, false), s.Notify(0, 3, true); one != api.OK || all != api.OK {
		t.Errorf("Notify: %v, %v", one, all)
	}
}

// P17.1: the names of what a thread is.
func TestNames(t *testing.T) {
	if l := []int{sched.Ready, sched.Blocked, sched.Waiting, sched.Sleeping, sched.Joining, sched.Done}; fmt.Sprint(l) != "[1 2 3 4 5 6]" {
		t.Error(l)
	}
}

// P17.1: as many threads as there may be, and none more, whatever they are; each is Ready.
func TestStart(t *testing.T) {
	s := some(t, api.MaxThreads)
	if states(s) != "RRRRRRRR" {
		t.Error(states(s))
	}
	for n := range api.MaxThreads {
		if why := s.End(n); why != api.OK {
			t.Errorf("End(%d): %v", n, why)
		}
		if x, why := s.Start(); x != 0 || why != api.ErrMany {
			t.Errorf("Start: %d, %v", x, why)
		}
	}
	if states(s) != "DDDDDDDD" {
		t.Error(states(s))
	}
	p := run(t, 2, "end 0; sleep 1 1; start; start")
	p.mustStand(t, "DSRR")
}

// P17.1: a thread's number is all that is asked of one that is none.
func TestNoThread(t *testing.T) {
	for _, n := range []int{0, 1, 3, 8} {
		s := some(t, n)
		for _, x := range []int{-1, n, n + 1, 100, math.MaxInt, math.MinInt, -n - 1} {
			ok, why := s.Enter(x, 5)
			l := []api.Errno{why, s.Exit(x, 5), s.Wait(x, 5), s.Notify(x, 5, true), s.Sleep(x, 1), s.Sleep(x, 0), s.Join(x, x), s.Join(x, 0), s.End(x)}
			if n > 0 {
				l = append(l, s.Join(0, x))
			}
			for i, why := range l {
				if why != api.ErrArg || ok {
					t.Errorf("of %d threads call %d of %d: %v, %v", n, i, x, why, ok)
				}
			}
			if s.State(x) != 0 {
				t.Errorf("State(%d): %d", x, s.State(x))
			}
		}
		if states(s) != strings.Repeat("R", n) {
			t.Error(states(s))
		}
	}
}

// P17.1: of a thread that is not Ready all calls are refused by ErrArg, the lock asked for or not, and nothing is changed.
func TestNotReady(t *testing.T) {
	for want, text := range map[string]string{
		"BR": "enter 1 0; enter 0 0",
		"WR": "enter 0 0; wait 0 0; enter 1 0",
		"SR": "enter 0 0; sleep 0 2",
		"JR": "enter 0 0; join 0 1",
		"DR": "enter 0 0; end 0",
	} {
		p := run(t, 2, text)
		if states(p.s) != want {
			t.Fatalf("%s: %s", text, states(p.s))
		}
		for _, one := range []string{"enter", "exit", "wait", "notify", "notifyAll", "sleep", "join", "end"} {
			for n := range 2 {
				if got := p.must(t, one, 0, n); !refused(got) || !strings.HasSuffix(got, api.ErrArg.Error()) {
					t.Errorf("%s: %s: %s", want, one, got)
				}
			}
		}
		if states(p.s) != want {
			t.Errorf("%s: now %s", want, states(p.s))
		}
	}
}

// P17.1: Pick goes around among those who are Ready, and from the first one backwards in number alone.
func TestPick(t *testing.T) {
	if x, ok := sched.New().Pick(0); x != 0 || ok {
		t.Errorf("without threads: %d, %v", x, ok)
	}
	p := run(t, 8, "end 0; sleep 3 5; join 5 5; enter 1 0; enter 6 0")
	for n, want := range map[int]int{0: 1, 1: 2, 2: 4, 3: 7, 4: 1, 5: 2, 7: 7, 8: 1, -1: 1, -2: 2, -3: 4, -4: 7, -5: 1, -6: 2, math.MaxInt: 7, math.MinInt: 7, math.MaxInt - 1: 4, math.MinInt + 1: 4} {
		if x, ok := p.s.Pick(n); x != want || !ok {
			t.Errorf("Pick(%d): %d, %v", n, x, ok)
		}
	}
	p = run(t, 2, "join 0 0; join 1 1")
	for _, n := range []int{0, 1, -1, math.MaxInt, math.MinInt} {
		if x, ok := p.s.Pick(n); x != 0 || ok {
			t.Errorf("with none Ready: Pick(%d): %d, %v", n, x, ok)
		}
	}
}

// P17.2: a lock counts, and goes to those who are Blocked in the order in which they came, though others have lower numbers.
func TestTurns(t *testing.T) {
	p := run(t, 4, "enter 2 0; enter 2 0; enter 3 0; enter 0 0; enter 1 0")
	p.mustStand(t, "BBRB", "5: 2 2")
	p.must(t, "exit", 2, 0)
	p.mustStand(t, "BBRB", "5: 2 1")
	p.must(t, "exit", 2, 0)
	p.mustStand(t, "BBRR", "5: 3 1")
	p.must(t, "enter", 2, 0)
	p.mustStand(t, "BBBR", "5: 3 1")
	for _, want := range []string{"RBBR", "RRBR", "RRRR"} {
		owner, _ := p.s.Owner(5)
		p.must(t, "exit", owner, 0)
		owner, _ = p.s.Owner(5)
		p.mustStand(t, want, fmt.Sprintf("5: %d 1", owner))
	}
	p.must(t, "exit", 2, 0)
	p.mustStand(t, "RRRR")
}

// P17.2: Exit, Wait and Notify of a lock that is free, or another's, are refused; locks have nothing to do with one another.
func TestNotIts(t *testing.T) {
	p := run(t, 2, "enter 0 0; enter 1 1; enter 0 4; enter 0 4; enter 0 5")
	want := []string{"RR", "-9223372036854775808: 0 1", "0: 1 1", "5: 0 1", "9223372036854775807: 0 2"}
	p.mustStand(t, want...)
	for _, one := range []string{"exit", "wait", "notify", "notifyAll"} {
		for _, n := range []int{0, 2, 3, 4, 5} {
			if got := p.must(t, one, 1, n); got != api.ErrState.Error() {
				t.Errorf("%s: %s", one, got)
			}
		}
	}
	p.mustStand(t, want...)
	p.must(t, "exit", 0, 0)
	if got := p.must(t, "exit", 0, 0); got != api.ErrState.Error() {
		t.Errorf("Exit of what is free again: %s", got)
	}
	p.mustStand(t, "RR", want[1], want[2], want[4])
}

// P17.3: who waits has nothing of the lock, whatever the count was, and asks for that again behind those who are Blocked.
func TestWait(t *testing.T) {
	p := run(t, 4, "enter 0 0; enter 0 0; enter 0 0; wait 0 0")
	p.mustStand(t, "WRRR")
	p.all(t, "enter 1 0; enter 2 0; enter 1 0; notify 1 0")
	p.mustStand(t, "BRBR", "5: 1 2")
	p.must(t, "enter", 3, 0)
	p.must(t, "wait", 1, 0)
	p.mustStand(t, "BWRB", "5: 2 1")
	p.must(t, "exit", 2, 0)
	p.mustStand(t, "RWRB", "5: 0 3")
	p.must(t, "exit", 0, 0)
	p.mustStand(t, "RWRB", "5: 0 2")
	p.must(t, "notify", 0, 0)
	p.must(t, "wait", 0, 0)
	p.mustStand(t, "WBRR", "5: 3 1")
	p.must(t, "end", 3, 0)
	p.mustStand(t, "WRRD", "5: 1 2")
}

// P17.3: Notify tells the first of those who wait for that lock, or each, in the order in which they came.
func TestNotify(t *testing.T) {
	text := "enter 2 0; wait 2 0; enter 0 0; wait 0 0; enter 3 1; wait 3 1; enter 1 0; wait 1 0; enter 4 0; enter 5 0"
	run(t, 6, text).mustStand(t, "WWWWRB", "5: 4 1")
	run(t, 6, text+"; notify 4 0").mustStand(t, "WWBWRB", "5: 4 1")
	run(t, 6, text+"; notify 4 0; notify 4 0").mustStand(t, "BWBWRB", "5: 4 1")
	run(t, 6, text+"; notify 4 0; notifyAll 4 0; notify 4 0").mustStand(t, "BBBWRB", "5: 4 1")
	text += "; notifyAll 4 0"
	for n, want := range []string{"BBBWRR 5", "BBRWRR 2", "RBRWRR 0", "RRRWRR 1"} {
		stand, owner, _ := strings.Cut(want, " ")
		text += "; exit " + []string{"4", "5", "2", "0"}[n] + " 0"
		run(t, 6, text).mustStand(t, stand, "5: "+owner+" 1")
	}
	run(t, 6, text+"; exit 1 0").mustStand(t, "RRRWRR")
	run(t, 6, text+"; exit 1 0; enter 1 1; notify 1 1; end 1").mustStand(t, "RDRRRR", "0: 3 1")
}

// P17.3: of less than 1 nobody sleeps; a sleep takes as many Ticks as it says, and no more.
func TestSleep(t *testing.T) {
	for _, n := range []int{0, -1, math.MinInt} {
		run(t, 1, fmt.Sprint("sleep 0 ", n)).mustStand(t, "R")
	}
	for n := 1; n < 40; n++ {
		for before := range 3 {
			s := some(t, 2)
			for range before {
				s.Tick()
			}
			s.Sleep(1, n)
			for i := range n {
				if states(s) != "RS" {
					t.Fatalf("Sleep(1, %d): %s at %d", n, states(s), i)
				}
				if l := s.Tick(); len(l) > 0 != (i == n-1) {
					t.Fatalf("Sleep(1, %d): %v at %d", n, l, i)
				}
			}
			if l := s.Tick(); len(l) > 0 || states(s) != "RR" {
				t.Fatalf("Sleep(1, %d): %v, %s", n, l, states(s))
			}
		}
	}
}

// P17.3: those who wake together are told by when they fell asleep, not by their numbers, nor by how long they slept.
func TestTick(t *testing.T) {
	p := run(t, 8, "sleep 6 4; sleep 2 4; tick; sleep 7 3; sleep 0 1; sleep 4 3; tick; sleep 1 2; sleep 0 2; sleep 5 1; tick; sleep 3 1")
	p.mustStand(t, "SSSSSRSS")
	if got := p.must(t, "tick", 0, 0); got != "[6 2 7 4 1 0 3]" {
		t.Error(got)
	}
	p.mustStand(t, "RRRRRRRR")
	for n := range 5040 {
		order, left := []int{}, []int{0, 1, 2, 3, 4, 5, 6}
		for size := 7; size > 0; size-- {
			order = append(order, left[n%size])
			left = slices.Delete(left, n%size, n%size+1)
			n /= size
		}
		s := some(t, 7)
		for i, x := range order {
			s.Sleep(x, 7-i)
			if i < 6 {
				s.Tick()
			}
		}
		if got := s.Tick(); fmt.Sprint(got) != fmt.Sprint(order) {
			t.Fatalf("%v, want %v", got, order)
		}
	}
}

// P17.3: the longest sleep goes on, however late it begins, and those who sleep less long wake ahead of it.
func TestLongSleep(t *testing.T) {
	s := some(t, 4)
	for range 1000 {
		s.Tick()
	}
	s.Sleep(0, math.MaxInt)
	s.Sleep(1, 2)
	s.Sleep(2, math.MaxInt-1)
	s.Sleep(3, math.MaxInt32)
	if l := s.Tick(); len(l) != 0 {
		t.Errorf("%v", l)
	}
	if l := s.Tick(); fmt.Sprint(l) != "[1]" {
		t.Errorf("%v", l)
	}
	for range 1000 {
		if l := s.Tick(); len(l) != 0 {
			t.Fatalf("%v", l)
		}
	}
	if states(s) != "SRSS" {
		t.Error(states(s))
	}
}

// P17.3: who sleeps, joins or waits keeps what locks it has (but the one that it waits with).
func TestKeepsLocks(t *testing.T) {
	p := run(t, 5, "enter 0 0; enter 0 1; enter 1 2; enter 1 2; enter 2 3; sleep 0 2; join 1 2; enter 2 0; tick; tick")
	p.mustStand(t, "RJBRR", "-4: 2 1", "0: 0 1", "5: 0 1", "7: 1 2")
	p.must(t, "wait", 0, 0)
	p.mustStand(t, "WJRRR", "-4: 2 1", "0: 0 1", "5: 2 1", "7: 1 2")
	p.must(t, "end", 2, 0)
	p.mustStand(t, "WRDRR", "0: 0 1", "7: 1 2")
}

// P17.3: Join of one that is Done is nothing; else the End of it lets all go on who join it, and nobody else.
func TestJoin(t *testing.T) {
	run(t, 2, "end 1; join 0 1").mustStand(t, "RD")
	run(t, 1, "join 0 0; tick").mustStand(t, "J")
	p := run(t, 6, "join 0 3; join 1 4; join 5 3; join 2 2")
	p.mustStand(t, "JJJRRJ")
	p.must(t, "end", 3, 0)
	p.mustStand(t, "RJJDRR")
	p.must(t, "join", 0, 1)
	p.must(t, "end", 4, 0)
	p.mustStand(t, "JRJDDR")
	p.must(t, "end", 1, 0)
	p.mustStand(t, "RDJDDR")
	if why := some(t, 2).Join(0, 2); why != api.ErrArg {
		t.Errorf("Join of none: %v", why)
	}
	run(t, 3, "sleep 1 1; join 0 1; join 2 0; tick; end 1; end 0; end 2").mustStand(t, "DDD")
}

// P17.3: who once joined a thread and then sleeps or waits is not woken by that thread's End.
func TestJoinedOnce(t *testing.T) {
	run(t, 3, "join 0 1; end 1; join 0 2; end 1").mustStand(t, "JDR")
	run(t, 4, "join 0 0; join 1 2; end 3").mustStand(t, "JJRD")
	run(t, 2, "sleep 0 3; end 1").mustStand(t, "SD")
}

// P17.3: an End gives away all locks, whatever their counts.
func TestEnd(t *testing.T) {
	text := "enter 0 4; enter 0 0; enter 0 0; enter 0 5; enter 0 3; enter 1 5; enter 2 4; enter 3 0; enter 4 5; enter 5 7; end 0"
	p := run(t, 6, text)
	p.mustStand(t, "DRRRBR", "-9223372036854775808: 1 1", "5: 3 1", "4294967296: 5 1", "9223372036854775807: 2 1")
	p.must(t, "enter", 3, 3)
	p.must(t, "end", 1, 0)
	p.mustStand(t, "DDRRRR", "-9223372036854775808: 4 1", "-4: 3 1", "5: 3 1", "4294967296: 5 1", "9223372036854775807: 2 1")
	run(t, 3, "enter 0 0; wait 0 0; enter 1 0; end 1").mustStand(t, "WDR")
	run(t, 3, "enter 0 0; wait 0 0; enter 1 0; end 1; enter 2 0; notify 2 0; end 2").mustStand(t, "RDD", "5: 0 1")
}

// P17.4: all are Done, or none can ever go on; who sleeps can.
func TestOver(t *testing.T) {
	mustOver(t, sched.New(), true, false)
	for text, want := range map[string][2]bool{
		"":                                     {false, false},
		"end 0; end 1":                         {true, false},
		"end 0":                                {false, false},
		"end 0; join 1 1":                      {false, true},
		"sleep 0 1; end 1":                     {false, false},
		"sleep 0 1; join 1 1":                  {false, false},
		"sleep 0 1; sleep 1 1":                 {false, false},
		"sleep 0 1; join 1 1; tick; end 0":     {false, true},
		"join 0 1; join 1 0":                   {false, true},
		"enter 0 0; wait 0 0; end 1":           {false, true},
		"enter 0 0; enter 1 0; join 0 1":       {false, true},
		"enter 0 0; enter 1 0":                 {false, false},
		"enter 0 0; wait 0 0":                  {false, false},
		"end 0; end 1; start":                  {false, false},
		"end 0; end 1; start; end 2":           {true, false},
		"end 1; enter 0 0; wait 0 0; start":    {false, false},
		"join 0 1; end 1; end 0; tick; end -1": {true, false},
	} {
		mustOver(t, run(t, 2, text).s, want[0], want[1])
	}
}

// P17.2, P17.3: what is once given away leaves nothing behind: a lock is as new each time, of thousands of numbers.
func TestManyLocks(t *testing.T) {
	s := some(t, 2)
	for n := range int64(20000) {
		if ok, why := s.Enter(0, n%5000); !ok || why != api.OK {
			t.Fatalf("Enter: %v, %v", ok, why)
		}
		if n%3 == 0 {
			s.Enter(1, n%5000)
		}
		if why := s.Exit(0, n%5000); why != api.OK {
			t.Fatal(why)
		}
		if n%3 == 0 {
			if owner, c := s.Owner(n % 5000); owner != 1 || c != 1 {
				t.Fatalf("Owner: %d, %d", owner, c)
			}
			s.Exit(1, n%5000)
		}
		if owner, c := s.Owner(n % 5000); owner != -1 || c != 0 {
			t.Fatalf("Owner: %d, %d", owner, c)
		}
	}
	for n := range int64(5000) {
		s.Enter(0, n*n)
	}
	s.End(0)
	for n := range int64(5000) {
		if owner, c := s.Owner(n * n); owner != -1 || c != 0 {
			t.Fatalf("Owner: %d, %d", owner, c)
		}
	}
}

// R2: what Tick answers is the caller's.
func TestNewMemory(t *testing.T) {
	s := some(t, 4)
	var kept [][]int
	for range 3 {
		for _, x := range []int{2, 0, 3} {
			s.Sleep(x, 1)
		}
		l := s.Tick()
		for _, old := range kept {
			if &old[0] == &l[0] {
				t.Error("the same memory")
			}
		}
		if fmt.Sprint(l) != "[2 0 3]" {
			t.Error(l)
		}
		kept = append(kept, l)
		for i := range l[:cap(l)] {
			l[:cap(l)][i] = 77
		}
	}
	if states(s) != "RRRR" {
		t.Error(states(s))
	}
}

// R4: two that are called alike answer alike; one knows nothing of the other.
func TestBeside(t *testing.T) {
	a, b := some(t, 3), some(t, 3)
	a.Enter(0, 5)
	a.Sleep(1, 1)
	b.End(0)
	if states(a) != "RSR" || states(b) != "DRR" {
		t.Errorf("%s, %s", states(a), states(b))
	}
	if ok, _ := b.Enter(1, 5); !ok || len(b.Tick()) != 0 {
		t.Error("of the other one")
	}
}
