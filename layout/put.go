package layout

import (
	"slices"

	"carafe/api"
	"carafe/types"
)

// put lays out c. Its super must be there already: a Kin names it ahead of those below.
func (l *Layout) put(c api.Class) {
	m := &member{place: len(l.members), above: l.members[c.Super], fields: map[key]part{}, methods: map[key]part{}}
	if m.above != nil { // each has its own lists, since others may stand below the same one
		m.refs = slices.Clone(m.above.refs)
		m.slots = slices.Clone(m.above.slots)
	}
	for _, f := range c.Fields {
		m.fields[key{f.Name, f.Desc}] = part{static: f.Static, at: l.lay(m, f)}
	}
	for n, x := range c.Methods {
		p := part{class: c.Name, n: n, static: x.Static}
		if !x.Static {
			p.at = m.slot(key{x.Name, x.Desc})
		}
		m.methods[key{x.Name, x.Desc}] = p
	}
	l.members[c.Name] = m
}

// lay puts f behind the Static fields of all classes, or behind those of m's objects, and answers where it lies.
func (l *Layout) lay(m *member, f api.Field) int {
	to := &m.refs
	if f.Static {
		to = &l.statics
	}
	*to = append(*to, types.IsRef(f.Desc))
	return len(*to) - 1
}

// slot answers the slot of a method of m that is not Static: one that a class above has for it, else one more.
func (m *member) slot(x key) int {
	at := slices.Index(m.slots, x)
	if at < 0 {
		at = len(m.slots)
		m.slots = append(m.slots, x)
	}
	return at
}
