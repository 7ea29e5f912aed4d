package layout_test

import (
	"fmt"
	"math"
	"slices"
	"testing"

	"carafe/api"
	"carafe/kin"
	"carafe/layout"
)

// What the chapter says, said anew: the classes of a Kin, the first one first, gone through each time.

type said []api.Class

// sayings are the classes of k as they are now.
func sayings(k *kin.Kin) (s said) {
	for _, name := range k.Names() {
		c, _ := k.Get(name)
		s = append(s, c)
	}
	return s
}

func (s said) class(name string) int {
	return slices.IndexFunc(s, func(c api.Class) bool { return c.Name == name })
}

// line goes from the class down: the farthest first.
func (s said) line(name string) said {
	n := s.class(name)
	if n < 0 {
		return nil
	}
	return append(s.line(s[n].Super), s[n])
}

type lying struct {
	class string
	field api.Field
	at    int
}

// lies are the fields of an object of that class, and all Static ones of s.
func (s said) lies(static bool) (l []lying) {
	for _, c := range s {
		for _, f := range c.Fields {
			if f.Static == static {
				l = append(l, lying{c.Name, f, len(l)})
			}
		}
	}
	return l
}

func refs(l []lying) (is []bool) {
	for _, x := range l {
		is = append(is, x.field.Desc[0] != 'I')
	}
	return is
}

// where is the place in l of the field that is the nearest to name's.
func (s said) where(l []lying, name, field, desc string) (int, bool) {
	line := s.line(name)
	slices.Reverse(line)
	for _, c := range line {
		for _, f := range c.Fields {
			if f.Name != field || f.Desc != desc {
				continue
			}
			for _, x := range l {
				if x.class == c.Name && x.field == f {
					return x.at, true
				}
			}
			return 0, false
		}
	}
	return 0, false
}

type slot [2]string

func (s said) slots(name string) (l []slot) {
	for _, c := range s.line(name) {
		has := slices.Clone(l)
		for _, m := range c.Methods {
			if x := (slot{m.Name, m.Desc}); !m.Static && !slices.Contains(has, x) {
				l = append(l, x)
			}
		}
	}
	return l
}

func (s said) selects(name string, x slot) (string, int) {
	line := s.line(name)
	slices.Reverse(line)
	for _, c := range line {
		for n, m := range c.Methods {
			if x == (slot{m.Name, m.Desc}) {
				return c.Name, n
			}
		}
	}
	return "", 0
}

// parts are the names and descriptors of all fields and methods, and such as nothing has.
func (s said) parts() []slot {
	l := []slot{{}, {"f", ""}, {"", "I"}, {"wait", "()I"}, {"wait", "(I)V"}, {"Wait", "()V"}, {"waitr", "un()V"}, {"wait()V", ""}, {"", "wait()V"}, {"none", "I"}, {"none", "()V"}}
	put := func(name, desc string) {
		if x := (slot{name, desc}); !slices.Contains(l, x) {
			l = append(l, x)
		}
	}
	for _, c := range s {
		for _, f := range c.Fields {
			put(f.Name, f.Desc)
		}
		for _, m := range c.Methods {
			put(m.Name, m.Desc)
		}
	}
	return l
}

// others are names of which no class is, and near to what is one.
var others = []string{"", "object", "Object ", "LObject;", "[LObject;", "Objec", "Objects", "None", "\x00", "\xff", "I", "wait"}

// told is a text that is the same of two values just if they are: nil and empty lists too (R4).
func told(l ...any) string { return fmt.Sprintf("%+v", l) }

// mustTell holds all that l can be asked against s, of some classes, fields, methods and slots that there are not, too.
func mustTell(t *testing.T, l *layout.Layout, s said) {
	t.Helper()
	statics, parts := s.lies(true), s.parts()
	if got, want := told(l.Statics()), told(refs(statics)); got != want {
		t.Fatalf("P16.2: Statics: %s, want %s", got, want)
	}
	for _, name := range append(s.names(), others...) {
		n, ok := l.Class(name)
		if want := s.class(name); n != max(want, 0) || ok != (want >= 0) {
			t.Fatalf("P16.1: Class(%q): %d, %v, want %d", name, n, ok, want)
		}
		fields := s.line(name).lies(false)
		if got, want := told(l.Fields(name)), told(refs(fields)); got != want {
			t.Fatalf("P16.2: Fields(%q): %s, want %s", name, got, want)
		}
		for _, p := range parts {
			n, ok := l.Offset(name, p[0], p[1])
			want, is := s.where(fields, name, p[0], p[1])
			if n != want || ok != is {
				t.Fatalf("P16.2: Offset(%q, %q): %d, %v, want %d, %v", name, p, n, ok, want, is)
			}
			n, ok = l.Static(name, p[0], p[1])
			want, is = s.where(statics, name, p[0], p[1])
			if n != want || ok != is {
				t.Fatalf("P16.2: Static(%q, %q): %d, %v, want %d, %v", name, p, n, ok, want, is)
			}
		}
		mustSelect(t, l, s, name, parts)
	}
}

func mustSelect(t *testing.T, l *layout.Layout, s said, name string, parts []slot) {
	t.Helper()
	slots := s.slots(name)
	if n := l.Slots(name); n != len(slots) {
		t.Fatalf("P16.3: Slots(%q): %d, want %d", name, n, len(slots))
	}
	for _, p := range parts {
		n, ok := l.Slot(name, p[0], p[1])
		if want := slices.Index(slots, p); n != max(want, 0) || ok != (want >= 0) {
			t.Fatalf("P16.3: Slot(%q, %q): %d, %v, want %d", name, p, n, ok, want)
		}
	}
	for n, p := range slots {
		at, x, ok := l.Select(name, n)
		want, y := s.selects(name, p)
		if at != want || x != y || !ok {
			t.Fatalf("P16.3: Select(%q, %d): %s, %d, %v, want %s, %d", name, n, at, x, ok, want, y)
		}
	}
	for _, n := range []int{math.MinInt, -2, -1, len(slots), len(slots) + 1, math.MaxInt, 1 << 32} {
		if at, x, ok := l.Select(name, n); at != "" || x != 0 || ok {
			t.Fatalf("P16.3: Select(%q, %d): %s, %d, %v", name, n, at, x, ok)
		}
	}
}

func (s said) names() (l []string) {
	for _, c := range s {
		l = append(l, c.Name)
	}
	return l
}
