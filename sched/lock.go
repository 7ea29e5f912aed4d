package sched

import (
	"slices"

	"carafe/api"
)

// lock is what one has, and others want.
type lock struct {
	owner            claim
	blocked, waiting []claim // in the order in which they get it, or are told
}

// claim is a thread that has a lock, or will have it, so many times over; of a free lock the count is 0.
type claim struct{ thread, count int }

// Enter gives the lock to t, or lets t wait until it gets it.
func (s *Sched) Enter(t int, lock int64) (bool, api.Errno) {
	if s.State(t) != Ready {
		return false, api.ErrArg
	}
	l := s.kept(lock)
	if l.owner.count > 0 && l.owner.thread != t {
		l.blocked = append(l.blocked, claim{t, 1})
		s.threads[t].state = Blocked
		return false, api.OK
	}
	l.owner = claim{t, l.owner.count + 1}
	return true, api.OK
}

// Exit takes back one Enter.
func (s *Sched) Exit(t int, lock int64) api.Errno {
	l, why := s.owned(t, lock)
	if why != api.OK {
		return why
	}
	l.owner.count--
	if l.owner.count == 0 {
		s.free(lock)
	}
	return api.OK
}

// Wait lets t give the lock away until it is told to ask for it again.
func (s *Sched) Wait(t int, lock int64) api.Errno {
	l, why := s.owned(t, lock)
	if why != api.OK {
		return why
	}
	l.waiting = append(l.waiting, l.owner)
	s.threads[t].state = Waiting
	s.free(lock)
	return api.OK
}

// Notify tells the first one who waits, or all, to ask for the lock again.
func (s *Sched) Notify(t int, lock int64, all bool) api.Errno {
	l, why := s.owned(t, lock)
	if why != api.OK {
		return why
	}
	n := len(l.waiting)
	if !all {
		n = min(n, 1)
	}
	for _, c := range l.waiting[:n] {
		s.threads[c.thread].state = Blocked
		l.blocked = append(l.blocked, c)
	}
	l.waiting = slices.Delete(l.waiting, 0, n)
	return api.OK
}

// Owner answers who has the lock, and how many times over.
func (s *Sched) Owner(lock int64) (int, int) {
	l := s.locks[lock]
	if l == nil || l.owner.count == 0 {
		return -1, 0
	}
	return l.owner.thread, l.owner.count
}

// kept answers the lock of that number, a new one if none is kept.
func (s *Sched) kept(n int64) *lock {
	l := s.locks[n]
	if l == nil {
		l = &lock{}
		s.locks[n] = l
	}
	return l
}

// owned answers the lock, if t can do something and has it.
func (s *Sched) owned(t int, n int64) (*lock, api.Errno) {
	if s.State(t) != Ready {
		return nil, api.ErrArg
	}
	if owner, _ := s.Owner(n); owner != t {
		return nil, api.ErrState
	}
	return s.locks[n], api.OK
}

// held answers the numbers of the locks that t has, rising.
func (s *Sched) held(t int) []int64 {
	var l []int64
	for n := range s.locks {
		if owner, _ := s.Owner(n); owner == t {
			l = append(l, n)
		}
	}
	slices.Sort(l)
	return l
}

// free takes the lock from its owner, and gives it to the first one who is Blocked for it.
func (s *Sched) free(n int64) {
	l := s.locks[n]
	l.owner = claim{}
	if len(l.blocked) > 0 {
		l.owner = l.blocked[0]
		l.blocked = slices.Delete(l.blocked, 0, 1)
		s.threads[l.owner.thread].state = Ready
		return
	}
	// A machine may lock ever more objects: a lock that nobody has or wants is forgotten.
	if len(l.waiting) == 0 {
		delete(s.locks, n)
	}
}
