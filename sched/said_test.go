package sched_test

import (
	"cmp"
	"fmt"
	"math"
	"slices"
	"testing"

	"carafe/api"
	"carafe/sched"
)

// said is the chapter said anew: it keeps threads alone, and finds out anew each time who has a lock and who is next.
type said struct {
	people []*person
	stamps int
}

// person is a thread: what it has, and what it waits for, and since when.
type person struct {
	state, since int
	has          map[int64]int
	lock         int64 // of one who is Blocked or Waiting
	count        int
	left         int // ticks of one who is Sleeping
	other        int // of one who is Joining
}

func (s *said) stamp() int {
	s.stamps++
	return s.stamps
}

func (s *said) start() (int, api.Errno) {
	if len(s.people) == 8 {
		return 0, api.ErrMany
	}
	s.people = append(s.people, &person{state: 1, has: map[int64]int{}})
	return len(s.people) - 1, api.OK
}

// of answers the threads of that state, rising.
func (s *said) of(state int) []int {
	var l []int
	for t, p := range s.people {
		if p.state == state {
			l = append(l, t)
		}
	}
	return l
}

func (s *said) pick(n int) (int, bool) {
	l := s.of(1)
	if len(l) == 0 {
		return 0, false
	}
	if n < 0 {
		n = ^n // -(n + 1)
	}
	return l[n%len(l)], true
}

func (s *said) state(t int) int {
	if t < 0 || t >= len(s.people) {
		return 0
	}
	return s.people[t].state
}

func (s *said) owner(lock int64) (int, int) {
	for t, p := range s.people {
		if n := p.has[lock]; n > 0 {
			return t, n
		}
	}
	return -1, 0
}

// queue answers those of that state for a lock, who came first first.
func (s *said) queue(state int, lock int64) []*person {
	var l []*person
	for _, t := range s.of(state) {
		if p := s.people[t]; p.lock == lock {
			l = append(l, p)
		}
	}
	slices.SortFunc(l, func(a, b *person) int { return cmp.Compare(a.since, b.since) })
	return l
}

// go1 lets who is next for a lock that nobody has have it.
func (s *said) go1(lock int64) {
	if owner, _ := s.owner(lock); owner < 0 {
		if l := s.queue(2, lock); len(l) > 0 {
			l[0].state, l[0].has[lock] = 1, l[0].count
		}
	}
}

func (s *said) enter(t int, lock int64) (bool, api.Errno) {
	if s.state(t) != 1 {
		return false, api.ErrArg
	}
	p := s.people[t]
	if owner, _ := s.owner(lock); owner >= 0 && owner != t {
		p.state, p.lock, p.count, p.since = 2, lock, 1, s.stamp()
		return false, api.OK
	}
	p.has[lock]++
	return true, api.OK
}

// refusal answers what Exit, Wait and Notify ask.
func (s *said) refusal(t int, lock int64) api.Errno {
	if s.state(t) != 1 {
		return api.ErrArg
	}
	if s.people[t].has[lock] == 0 {
		return api.ErrState
	}
	return api.OK
}

func (s *said) exit(t int, lock int64) api.Errno {
	why := s.refusal(t, lock)
	if why == api.OK {
		s.people[t].has[lock]--
		s.go1(lock)
	}
	return why
}

func (s *said) wait(t int, lock int64) api.Errno {
	why := s.refusal(t, lock)
	if why == api.OK {
		p := s.people[t]
		p.state, p.lock, p.count, p.since = 3, lock, p.has[lock], s.stamp()
		p.has[lock] = 0
		s.go1(lock)
	}
	return why
}

func (s *said) notify(t int, lock int64, all bool) api.Errno {
	why := s.refusal(t, lock)
	if why == api.OK {
		for n, p := range s.queue(3, lock) {
			if n == 0 || all {
				p.state, p.since = 2, s.stamp()
			}
		}
	}
	return why
}

func (s *said) sleep(t, ticks int) api.Errno {
	if s.state(t) != 1 {
		return api.ErrArg
	}
	if ticks > 0 {
		p := s.people[t]
		p.state, p.left, p.since = 4, ticks, s.stamp()
	}
	return api.OK
}

func (s *said) tick() []int {
	var up []int
	for _, t := range s.of(4) {
		p := s.people[t]
		if p.left--; p.left == 0 {
			p.state = 1
			up = append(up, t)
		}
	}
	slices.SortFunc(up, func(a, b int) int { return cmp.Compare(s.people[a].since, s.people[b].since) })
	return up
}

func (s *said) join(t, other int) api.Errno {
	if s.state(t) != 1 || s.state(other) == 0 {
		return api.ErrArg
	}
	if s.state(other) != 6 {
		s.people[t].state, s.people[t].other = 5, other
	}
	return api.OK
}

func (s *said) end(t int) api.Errno {
	if s.state(t) != 1 {
		return api.ErrArg
	}
	p := s.people[t]
	locks := p.has
	p.state, p.has = 6, nil
	for lock := range locks {
		s.go1(lock)
	}
	for _, j := range s.of(5) {
		if s.people[j].other == t {
			s.people[j].state = 1
		}
	}
	return api.OK
}

func (s *said) over() (bool, bool) {
	if len(s.of(6)) == len(s.people) {
		return true, false
	}
	return false, len(s.of(1))+len(s.of(4)) == 0
}

// locks are those that tests ask for; others are of nobody.
var locks = []int64{5, 0, 7, -4, math.MaxInt64, math.MinInt64, 1, 1 << 32}

// calls are what is asked of a Sched and of what is said anew alike.
type calls struct {
	start  func() (int, api.Errno)
	pick   func(int) (int, bool)
	state  func(int) int
	enter  func(int, int64) (bool, api.Errno)
	exit   func(int, int64) api.Errno
	wait   func(int, int64) api.Errno
	notify func(int, int64, bool) api.Errno
	sleep  func(int, int) api.Errno
	join   func(int, int) api.Errno
	end    func(int) api.Errno
	tick   func() []int
	owner  func(int64) (int, int)
	over   func() (bool, bool)
}

func callsOf(s *sched.Sched) calls {
	return calls{s.Start, s.Pick, s.State, s.Enter, s.Exit, s.Wait, s.Notify, s.Sleep, s.Join, s.End, s.Tick, s.Owner, s.Over}
}

func anew() calls {
	s := &said{}
	return calls{s.start, s.pick, s.state, s.enter, s.exit, s.wait, s.notify, s.sleep, s.join, s.end, s.tick, s.owner, s.over}
}

// told is all that can be asked without a change.
func told(c calls) string {
	text := ""
	for t := -2; t < 10; t++ {
		text += fmt.Sprint(c.state(t), " ")
	}
	for _, lock := range locks {
		text += fmt.Sprintln(c.owner(lock))
	}
	for _, n := range []int{0, 1, 2, 3, 4, 5, 6, 7, 8, 100, -1, -2, -3, -8, -9, math.MaxInt, math.MinInt} {
		text += fmt.Sprintln(c.pick(n))
	}
	return text + fmt.Sprint(c.over())
}

// did is one call, and all that it answers.
func did(c calls, what string, t, n int) string {
	lock := locks[max(n, 0)%len(locks)]
	switch what {
	case "start":
		return fmt.Sprint(c.start())
	case "enter":
		return fmt.Sprint(c.enter(t, lock))
	case "exit":
		return fmt.Sprint(c.exit(t, lock))
	case "wait":
		return fmt.Sprint(c.wait(t, lock))
	case "notify":
		return fmt.Sprint(c.notify(t, lock, false))
	case "notifyAll":
		return fmt.Sprint(c.notify(t, lock, true))
	case "sleep":
		return fmt.Sprint(c.sleep(t, n))
	case "join":
		return fmt.Sprint(c.join(t, n))
	case "end":
		return fmt.Sprint(c.end(t))
	case "tick":
		return fmt.Sprint(c.tick())
	}
	return "no call " + what
}

// pair is a Sched and what is said anew, which must answer the same.
type pair struct {
	s    *sched.Sched
	a, b calls
	log  []string
}

func newPair() *pair {
	s := sched.New()
	return &pair{s: s, a: callsOf(s), b: anew()}
}

// must does one call on both.
func (p *pair) must(t *testing.T, what string, thread, n int) string {
	t.Helper()
	p.log = append(p.log, fmt.Sprint(what, " ", thread, " ", n))
	before := told(p.a)
	got, want := did(p.a, what, thread, n), did(p.b, what, thread, n)
	if got != want {
		t.Fatalf("%q: %s, want %s", p.log, got, want)
	}
	after := told(p.a)
	if want := told(p.b); after != want {
		t.Fatalf("%q:\n%s\nwant\n%s", p.log, after, want)
	}
	if refused(got) && before != after {
		t.Fatalf("%q: refused, but\n%s\nwas\n%s", p.log, after, before)
	}
	return got
}

// refused tells whether an answer is one beside a refusal.
func refused(answer string) bool {
	for _, why := range []api.Errno{api.ErrArg, api.ErrMany, api.ErrState} {
		if answer == why.Error() || answer == "false "+why.Error() || answer == "0 "+why.Error() {
			return true
		}
	}
	return false
}
