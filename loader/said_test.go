package loader_test

import (
	"fmt"

	"carafe/api"
	"carafe/descr"
)

// What the chapter says, said anew: one list of what was done for all loaders, gone through each time.

type key struct {
	n    int
	name string
}

type offered struct {
	super string
	id    int
}

type had struct{ id, by int }

type pact struct {
	a, b int
	name string
}

type said struct {
	above  []int // from the second loader on
	offers map[key]offered
	have   map[key]had
	pacts  []pact
}

func saidNew() *said {
	return &said{offers: map[key]offered{}, have: map[key]had{}}
}

func (s *said) is(n int) bool { return 0 <= n && n <= len(s.above) }

func (s *said) child(parent int) (int, api.Errno) {
	if !s.is(parent) {
		return 0, api.ErrArg
	}
	if len(s.above) == 15 {
		return 0, api.ErrMany
	}
	s.above = append(s.above, parent)
	return len(s.above), api.OK
}

func (s *said) offer(n int, name, super string, id int) api.Errno {
	switch {
	case !s.is(n), !descr.Name(name), super != "" && !descr.Name(super), id < 0:
		return api.ErrArg
	}
	if _, ok := s.offers[key{n, name}]; ok {
		return api.ErrTaken
	}
	s.offers[key{n, name}] = offered{super, id}
	return api.OK
}

func (s *said) line(n int) []int {
	if n == 0 {
		return []int{0}
	}
	return append(s.line(s.above[n-1]), n)
}

func (s *said) load(n int, name string) (had, api.Errno) {
	if !s.is(n) {
		return had{}, api.ErrArg
	}
	return s.loadIn(n, name, map[key]bool{})
}

func (s *said) loadIn(n int, name string, loading map[key]bool) (had, api.Errno) {
	if h, ok := s.have[key{n, name}]; ok {
		return h, api.OK
	}
	line := s.line(n)
	for i, m := range line {
		h, has := s.have[key{m, name}]
		o, offers := s.offers[key{m, name}]
		if !has && !offers {
			continue
		}
		if !has {
			if loading[key{m, name}] {
				return had{}, api.ErrCircle
			}
			loading[key{m, name}] = true
			if o.super != "" {
				if _, why := s.loadIn(m, o.super, loading); why != api.OK {
					return had{}, why
				}
			}
			h = had{o.id, m}
		}
		for _, m := range line[i:] {
			if s.unlike(m, name, h.id) {
				return had{}, api.ErrBound
			}
			if _, ok := s.have[key{m, name}]; !ok {
				s.have[key{m, name}] = h
			}
		}
		return s.have[key{n, name}], api.OK
	}
	return had{}, api.ErrNone
}

// unlike tells whether n, or who agrees with it, has loaded the name as another id.
func (s *said) unlike(n int, name string, id int) bool {
	for _, m := range s.chained(n, name) {
		if h, ok := s.have[key{m, name}]; ok && h.id != id {
			return true
		}
	}
	return false
}

// chained answers n and who agrees with it by chains of pacts.
func (s *said) chained(n int, name string) []int {
	in := map[int]bool{n: true}
	for was := 0; was < len(in); {
		was = len(in)
		for _, p := range s.pacts {
			if p.name == name && (in[p.a] || in[p.b]) {
				in[p.a], in[p.b] = true, true
			}
		}
	}
	var l []int
	for m := range in {
		l = append(l, m)
	}
	return l
}

func (s *said) agree(a, b int, name string) api.Errno {
	if !s.is(a) || !s.is(b) {
		return api.ErrArg
	}
	for _, m := range s.chained(a, name) {
		if h, ok := s.have[key{m, name}]; ok && s.unlike(b, name, h.id) {
			return api.ErrBound
		}
	}
	s.pacts = append(s.pacts, pact{a, b, name})
	return api.OK
}

func (s *said) told() string {
	return fmt.Sprint(s.above, s.offers, s.have, s.pacts)
}
