package loader

import (
	"slices"

	"carafe/api"
)

// wish is a name that a loader is to load, and the first one of its line that has loaded it, or will define it.
type wish struct {
	name      string
	first, to int
}

// defined is what somebody defines.
type defined struct {
	by   int
	name string
}

// Load answers the id of a name for loader n, and the loader that defined it.
func (l *Loaders) Load(n int, name string) (int, int, api.Errno) {
	if !l.has(n) {
		return 0, 0, api.ErrArg
	}
	wishes, why := l.wishes(n, name)
	if why != api.OK {
		return 0, 0, why
	}
	for _, w := range slices.Backward(wishes) {
		if why := l.grant(w); why != api.OK {
			return 0, 0, why
		}
	}
	c := l.each[n].loaded[name]
	return c.id, c.by, api.OK
}

// wishes answers what has to be loaded for one name: it, its super, the super of that, and so on. They are gathered in a list, ahead of all loading, since supers may be more than calls can be deep in one another. None of them changes what another one finds: their names are unlike, else there is a circle.
func (l *Loaders) wishes(n int, name string) ([]wish, api.Errno) {
	var list []wish
	defining := map[defined]int{}
	for !l.loaded(n, name) {
		first := l.first(n, name)
		if first == none {
			return nil, api.ErrNone
		}
		list = append(list, wish{name, first, n})
		if l.loaded(first, name) {
			break
		}
		d := defined{first, name}
		if _, again := defining[d]; again {
			return nil, api.ErrCircle
		}
		defining[d] = len(list)
		n, name = first, l.each[first].offers[name].super
		if name == "" {
			break
		}
	}
	return list, api.OK
}

func (l *Loaders) loaded(n int, name string) bool {
	_, ok := l.Loaded(n, name)
	return ok
}

// first is, of the loaders from loader 0 down to n, the first one that has loaded a name or offers it.
func (l *Loaders) first(n int, name string) int {
	first := none
	for ; n != none; n = l.each[n].parent {
		if _, offers := l.each[n].offers[name]; offers || l.loaded(n, name) {
			first = n
		}
	}
	return first
}

// line answers the loaders from first down to n.
func (l *Loaders) line(first, n int) []int {
	line := []int{n}
	for n != first {
		n = l.each[n].parent
		line = append(line, n)
	}
	slices.Reverse(line)
	return line
}

// grant lets those of a line load a name whose supers are loaded.
func (l *Loaders) grant(w wish) api.Errno {
	c, ok := l.each[w.first].loaded[w.name]
	if !ok {
		c = class{l.each[w.first].offers[w.name].id, w.first}
	}
	for _, n := range l.line(w.first, w.to) {
		if id, told := l.told(n, w.name); told && id != c.id {
			return api.ErrBound
		}
		if !l.loaded(n, w.name) { // else it goes on telling who defined it there
			l.each[n].loaded[w.name] = c
		}
	}
	return api.OK
}
