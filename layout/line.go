package layout

// key is what a field or a method is found by.
type key struct{ name, desc string }

// part is a field or a method of a class.
type part struct {
	static bool
	at     int    // of a field where it lies; of a method its slot, if it isn't Static
	class  string // of a method whose it is
	n      int    // of a method its number there
}

// member is a class that is laid out.
type member struct {
	place           int
	above           *member // nil of Object
	fields, methods map[key]part
	refs            []bool // which fields of its objects are references
	slots           []key
}

// line goes from m, its super, and so on, up to Object; of no m it goes nowhere.
func (m *member) line(yield func(*member) bool) {
	for m != nil && yield(m) {
		m = m.above
	}
}

func (m *member) field(x key) (part, bool) {
	p, ok := m.fields[x]
	return p, ok
}

func (m *member) method(x key) (part, bool) {
	p, ok := m.methods[x]
	return p, ok
}

// nearest answers what the first one of m's line has of which own tells that it has x.
func (m *member) nearest(own func(m *member, x key) (part, bool), x key) (part, bool) {
	for a := range m.line {
		if p, ok := own(a, x); ok {
			return p, true
		}
	}
	return part{}, false
}

// where answers where the nearest x lies, if it is Static, or isn't, as is asked: one of the other Static hides those above it.
func (m *member) where(own func(m *member, x key) (part, bool), x key, static bool) (int, bool) {
	p, ok := m.nearest(own, x)
	if !ok || p.static != static {
		return 0, false
	}
	return p.at, true
}
