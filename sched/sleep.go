package sched

import (
	"container/heap"

	"carafe/api"
)

// bed is where those who sleep lie; it counts up, so that nobody's time has to be changed by a tick.
type bed struct {
	now, nights uint64 // ticks that went by, and how often somebody fell asleep
	sleepers    sleepers
}

// sleepers is a heap: the first one wakes before all others.
type sleepers []sleeper

// sleeper is a thread that wakes at that tick; night tells who fell asleep earlier.
type sleeper struct {
	wakes, night uint64
	thread       int
}

// Sleep lets t do nothing for so many ticks.
func (s *Sched) Sleep(t int, ticks int) api.Errno {
	if s.State(t) != Ready {
		return api.ErrArg
	}
	if ticks < 1 {
		return api.OK
	}
	s.threads[t].state = Sleeping
	s.bed.lay(t, ticks)
	return api.OK
}

// Tick lets time go by, and answers who wakes.
func (s *Sched) Tick() []int {
	up := s.bed.tick()
	for _, t := range up {
		s.threads[t].state = Ready
	}
	return up
}

func (b *bed) lay(t, ticks int) {
	heap.Push(&b.sleepers, sleeper{b.now + uint64(ticks), b.nights, t})
	b.nights++
}

func (b *bed) tick() []int {
	b.now++
	var up []int
	for len(b.sleepers) > 0 && b.sleepers[0].wakes == b.now {
		up = append(up, b.sleepers[0].thread)
		heap.Pop(&b.sleepers)
	}
	return up
}

// Len is asked by the heap.
func (l sleepers) Len() int { return len(l) }

// Less holds two against each other: of those who wake together the one who fell asleep earlier is first.
func (l sleepers) Less(i, j int) bool {
	if l[i].wakes != l[j].wakes {
		return l[i].wakes < l[j].wakes
	}
	return l[i].night < l[j].night
}

// Swap lets two change places.
func (l sleepers) Swap(i, j int) { l[i], l[j] = l[j], l[i] }

// Push puts one at the end.
func (l *sleepers) Push(x any) { *l = append(*l, x.(sleeper)) }

// Pop takes the one at the end away.
func (l *sleepers) Pop() any {
	last := len(*l) - 1
	x := (*l)[last]
	*l = (*l)[:last]
	return x
}
