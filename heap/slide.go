package heap

import (
	"carafe/api"
)

// slide is one call of Slide: where each object goes that is kept.
type slide struct {
	h  *Heap
	to []int64 // by where an object is now; 0 of one that is not kept, and of null
}

// Slide asks all that may be refused ahead of the first word that it moves.
func (h *Heap) Slide(keep []int) ([]int, api.Errno) {
	s := slide{h, make([]int64, h.Used()+1)}
	now, used, ok := s.plan(keep)
	if !ok || !s.all(keep, s.leadsOn) {
		return nil, api.ErrArg
	}
	s.all(keep, s.follow)
	for i, ref := range keep {
		h.move(ref, now[i])
	}
	h.cut(used, now)
	return now, api.OK
}

// plan answers where each of keep will be, and how many words they have; false, if keep is not rising or one of it is no object.
func (s *slide) plan(keep []int) (now []int, used int, ok bool) {
	last := 0
	for _, ref := range keep {
		if ref <= last || !s.h.is(int64(ref)) {
			return nil, 0, false
		}
		last = ref
		now = append(now, used+1)
		s.to[ref] = int64(used + 1)
		used += header + s.h.Len(ref)
	}
	return now, used, true
}

// all goes through the fields of keep that are references, as long as does says true of the word in which one stands.
func (s *slide) all(keep []int, does func(word int) bool) bool {
	for _, ref := range keep {
		for n := range s.h.Len(ref) {
			if s.h.IsRef(ref, n) && !does(field(ref, n)) {
				return false
			}
		}
	}
	return true
}

// leadsOn tells whether what the word refers to is kept, or null.
func (s *slide) leadsOn(word int) bool {
	old := s.h.words[word]
	return old == 0 || s.to[old] != 0
}

// follow makes the word refer to where the object will be.
func (s *slide) follow(word int) bool {
	s.h.words[word] = s.to[s.h.words[word]]
	return true
}

// move needs no other room: nothing that is kept and not yet moved begins ahead of where ref ends.
func (h *Heap) move(ref, now int) {
	end := field(ref, h.Len(ref))
	copy(h.words[now-1:], h.words[ref-1:end])
}

// cut leaves the first words, in which the objects of now begin.
func (h *Heap) cut(used int, now []int) {
	h.words, h.begins = h.words[:used], h.begins[:used]
	clear(h.begins)
	for _, ref := range now {
		h.begins[ref-1] = true
	}
}
