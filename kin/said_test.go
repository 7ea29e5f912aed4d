package kin_test

import (
	"fmt"
	"math/rand"
	"slices"
	"strings"
	"testing"

	"carafe/api"
	"carafe/classfile"
	"carafe/kin"
)

// What follows says the chapter anew, by a list of classes that is gone through each time.

type said []api.Class

func native(static bool, name, desc string) api.Method {
	return api.Method{Name: name, Desc: desc, Static: static, Native: true}
}

// always says P7.1 anew.
func always() said {
	below := func(super, names string) (s said) {
		for _, name := range strings.Fields(names) {
			s = append(s, api.Class{Name: name, Super: super})
		}
		return s
	}
	s := append(below("", "Object"), below("Object", "Throwable")...)
	s = append(s, below("Throwable", "Arithmetic NullPointer Index NegativeSize Cast Store Monitor Memory Stack")...)
	s = append(s, below("Object", "Thread System")...)
	s[0].Methods = []api.Method{native(false, "wait", "()V"), native(false, "notify", "()V"), native(false, "notifyAll", "()V")}
	s[11].Methods = []api.Method{{Name: "run", Desc: "()V", Locals: 1, Code: []byte{177}}, native(false, "start", "()V"), native(false, "join", "()V")}
	s[12].Methods = []api.Method{native(true, "print", "(I)V"), native(true, "sleep", "(I)V")}
	return s
}

func (s said) find(name string) int {
	return slices.IndexFunc(s, func(c api.Class) bool { return c.Name == name })
}

func (s said) line(name string) said {
	if n := s.find(name); n >= 0 {
		return append(said{s[n]}, s.line(s[n].Super)...)
	}
	return nil
}

func (s said) names() (l []string) {
	for _, c := range s {
		l = append(l, c.Name)
	}
	return l
}

// field and method answer what the first of s has, said in one text; the empty one, if none has it.
func (s said) field(name, desc string) string {
	for _, c := range s {
		for _, f := range c.Fields {
			if [2]string{f.Name, f.Desc} == [2]string{name, desc} {
				return told(c.Name, f)
			}
		}
	}
	return ""
}

func (s said) method(name, desc string) (text string, static bool) {
	for _, c := range s {
		for _, m := range c.Methods {
			if [2]string{m.Name, m.Desc} == [2]string{name, desc} {
				return told(c.Name, m), m.Static
			}
		}
	}
	return "", false
}

// add says P7.2 anew.
func (s said) add(c api.Class) (said, api.Errno) {
	if why := classfile.Right(c); why != api.OK {
		return s, why
	}
	if s.find(c.Name) >= 0 {
		return s, api.ErrTaken
	}
	if len(s) == 32 {
		return s, api.ErrMany
	}
	if s.find(c.Super) < 0 {
		return s, api.ErrNone
	}
	for _, m := range c.Methods {
		if m.Native {
			return s, api.ErrForm
		}
	}
	for _, m := range c.Methods {
		if text, static := s.line(c.Super).method(m.Name, m.Desc); text != "" && static != m.Static {
			return s, api.ErrTaken
		}
	}
	return append(slices.Clone(s), c), api.OK
}

// told is a text that is the same of two values just if they are: nil and empty lists too (R4).
func told(l ...any) string { return fmt.Sprintf("%+v", l) }

// others are names of which no class is, and near to what is one.
var others = []string{"", "object", "Object ", "LObject;", "[LObject;", "Objec", "Objects", "None", "\x00", "\xff", "I", "wait"}

// mustTell holds all that k can be asked of its classes, and of some that it has not, against s.
func mustTell(t *testing.T, k *kin.Kin, s said) {
	t.Helper()
	if got := k.Names(); !slices.Equal(got, s.names()) {
		t.Fatalf("Names: %q, want %q", got, s.names())
	}
	names := append(s.names(), others...)
	for _, name := range names {
		c, ok := k.Get(name)
		var want api.Class
		if n := s.find(name); n >= 0 {
			want = s[n]
		}
		if told(c) != told(want) || ok != (s.find(name) >= 0) {
			t.Fatalf("Get(%q): %+v, %v, want %+v", name, c, ok, want)
		}
		line := s.line(name)
		if got := k.Line(name); !slices.Equal(got, line.names()) {
			t.Fatalf("Line(%q): %q, want %q", name, got, line.names())
		}
		for _, b := range names {
			if got, want := k.Sub(name, b), line.find(b) >= 0; got != want {
				t.Fatalf("Sub(%q, %q): %v", name, b, got)
			}
		}
		mustFind(t, k, name, line, parts(s))
	}
}

// parts are the names and descriptors of all fields and methods, and such as nothing has.
func parts(s said) [][2]string {
	l := [][2]string{{"", ""}, {"f", ""}, {"", "I"}, {"Wait", "()V"}, {"wait", "()I"}, {"wait", "(I)V"}, {"print", "()V"}, {"run", ""}, {"wait()V", ""}, {"", "wait()V"}}
	seen := map[[2]string]bool{}
	put := func(name, desc string) {
		if p := [2]string{name, desc}; !seen[p] {
			seen[p] = true
			l = append(l, p)
		}
	}
	for _, c := range s {
		for _, f := range c.Fields {
			put(f.Name, f.Desc)
		}
		for _, m := range c.Methods {
			put(m.Name, m.Desc)
		}
	}
	return l
}

// mustFind holds what k finds of the class of that name and line.
func mustFind(t *testing.T, k *kin.Kin, class string, line said, parts [][2]string) {
	t.Helper()
	for _, p := range parts {
		at, f, ok := k.Field(class, p[0], p[1])
		if got, want := told(at, f), line.field(p[0], p[1]); ok != (want != "") || ok && got != want || !ok && got != told("", api.Field{}) {
			t.Fatalf("Field(%q, %q): %s, %v, want %s", class, p, got, ok, want)
		}
		at, m, ok := k.Method(class, p[0], p[1])
		if got, want := told(at, m), first(line.method(p[0], p[1])); ok != (want != "") || ok && got != want || !ok && got != told("", api.Method{}) {
			t.Fatalf("Method(%q, %q): %s, %v, want %s", class, p, got, ok, want)
		}
	}
}

func first(s string, _ bool) string { return s }

// mustAdd adds c to both, holds the answers against each other, and answers s behind it.
func mustAdd(t *testing.T, k *kin.Kin, s said, c api.Class) (said, api.Errno) {
	t.Helper()
	s, want := s.add(c)
	if why := k.Add(c); why != want {
		t.Fatalf("Add(%+v): %v, want %v, behind %q", c, why, want, s.names())
	}
	return s, want
}

// drawn is a class by the numbers that draw answers: few names, so that many of them meet.
func drawn(draw func(n int) int) api.Class {
	of := func(l ...string) string { return l[draw(len(l))] }
	names := []string{"A", "B", "C", "D", "E", "F", "G", "Object", "Thread", "System", "Index"}
	c := api.Class{Name: of(names[:8]...), Super: of(names...)}
	switch draw(12) {
	case 0:
		c.Super = of("", "1", "Z", c.Name)
	case 1:
		c.Name = of("", "1", "LA;")
	case 2:
		c.Pool = []api.Const{{Kind: api.ConstInt, N: int32(draw(9))}, {Kind: api.ConstClass, Class: of("A", "[I", "LA;")}}
	}
	for range draw(4) {
		c.Fields = append(c.Fields, api.Field{Name: of("f", "g", "wait"), Desc: of("I", "[I"), Static: draw(2) == 0})
	}
	for range draw(4) {
		m := api.Method{Name: of("f", "m", "n", "wait", "run", "print", "start"), Desc: of("()V", "(I)V"), Static: draw(3) == 0, Native: draw(16) == 0}
		if !m.Native {
			m.Code, m.Locals = []byte{byte(draw(9)), 177}, draw(3)
		}
		c.Methods = append(c.Methods, m)
	}
	return c
}

// P7.1 to P7.3: many classes that come in any order, each let by or refused as the chapter says; behind each all is told.
func TestDrawn(t *testing.T) {
	r := rand.New(rand.NewSource(7))
	met := map[api.Errno]int{}
	for range 150 {
		k, s := kin.New(), always()
		for range 30 {
			var why api.Errno
			s, why = mustAdd(t, k, s, drawn(r.Intn))
			met[why]++
		}
		mustTell(t, k, s)
	}
	for _, why := range []api.Errno{api.OK, api.ErrDesc, api.ErrRef, api.ErrNone, api.ErrForm, api.ErrTaken} {
		if met[why] < 20 {
			t.Errorf("%v only %d times", why, met[why])
		}
	}
}

// P7.1 to P7.3, R1: classes of any bytes.
func FuzzKin(f *testing.F) {
	f.Add("")
	f.Add("\x00\x01\x02\x03\x04\x05\x06\x07\x08\x09\x0a\x0b\x0c\x0d\x0e\x0f")
	f.Add(strings.Repeat("\x03\x08\x05\x01\x02\x00\x01\x02\x01\x00\x01\x03\x07", 9))
	f.Fuzz(func(t *testing.T, b string) {
		k, s := kin.New(), always()
		for len(b) > 0 {
			s, _ = mustAdd(t, k, s, drawn(func(n int) int {
				if len(b) == 0 {
					return 0
				}
				x := int(b[0]) % n
				b = b[1:]
				return x
			}))
		}
		mustTell(t, k, s)
	})
}
