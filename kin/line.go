package kin

import (
	"slices"

	"carafe/api"
)

// member is a class that a Kin has, and the one above it, which never changes any more.
type member struct {
	api.Class
	above *member // nil of Object
}

// line goes from m, its super, and so on, up to Object; of no m it goes nowhere.
func (m *member) line(yield func(*member) bool) {
	for m != nil && yield(m) {
		m = m.above
	}
}

// nearest answers the first one of m's line in which has finds what is asked for, and its number there; nil, if none has it.
func (m *member) nearest(has func(m *member, name, desc string) int, name, desc string) (*member, int) {
	for at := range m.line {
		if n := has(at, name, desc); n >= 0 {
			return at, n
		}
	}
	return nil, -1
}

func (m *member) field(name, desc string) int {
	return slices.IndexFunc(m.Fields, func(f api.Field) bool { return f.Name == name && f.Desc == desc })
}

func (m *member) method(name, desc string) int {
	return slices.IndexFunc(m.Methods, func(x api.Method) bool { return x.Name == name && x.Desc == desc })
}

// contradicts tells whether a class right below m can't have x, since what is called by its name and descriptor is of the other Static.
func (m *member) contradicts(x api.Method) bool {
	at, n := m.nearest((*member).method, x.Name, x.Desc)
	return at != nil && at.Methods[n].Static != x.Static
}

// Sub tells whether b is a, or a class above it.
func (k *Kin) Sub(a, b string) bool {
	for m := range k.members[a].line {
		if m.Name == b {
			return true
		}
	}
	return false
}

// Line answers name, its super, and so on.
func (k *Kin) Line(name string) []string {
	var l []string
	for m := range k.members[name].line {
		l = append(l, m.Name)
	}
	return l
}

// Field answers the first class of class's line that has such a field, and it.
func (k *Kin) Field(class, name, desc string) (string, api.Field, bool) {
	m, n := k.members[class].nearest((*member).field, name, desc)
	if m == nil {
		return "", api.Field{}, false
	}
	return m.Name, m.Fields[n], true
}

// Method answers the first class of class's line that has such a method, and a copy of it.
func (k *Kin) Method(class, name, desc string) (string, api.Method, bool) {
	m, n := k.members[class].nearest((*member).method, name, desc)
	if m == nil {
		return "", api.Method{}, false
	}
	return m.Name, copyMethod(m.Methods[n]), true
}
