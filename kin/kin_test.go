package kin_test

import (
	"fmt"
	"math"
	"slices"
	"strings"
	"testing"

	"carafe/api"
	"carafe/classfile"
	"carafe/kin"
)

func method(static bool, name, desc string) api.Method {
	return api.Method{Name: name, Desc: desc, Static: static, Code: []byte{177}}
}

func class(name, super string, methods ...api.Method) api.Class {
	return api.Class{Name: name, Super: super, Methods: methods}
}

// numbered is a class of which there may be many.
func numbered(n int, super string) api.Class { return class(fmt.Sprint("X", n), super) }

// built is a Kin with these classes, which must all be let by.
func built(t *testing.T, l ...api.Class) *kin.Kin {
	t.Helper()
	k := kin.New()
	for _, c := range l {
		if why := k.Add(c); why != api.OK {
			t.Fatalf("Add(%+v): %v", c, why)
		}
	}
	return k
}

// full are as many classes as there may be beside those that are always there.
func full() (l []api.Class) {
	for n := range 32 - 13 {
		l = append(l, numbered(n, "Object"))
	}
	return l
}

// P7.1: all that a new Kin tells.
func TestNew(t *testing.T) {
	k := kin.New()
	if k == nil {
		t.Fatal("none")
	}
	mustTell(t, k, always())
	if n := len(k.Names()); n != 13 {
		t.Errorf("%d classes", n)
	}
	for _, name := range k.Names() {
		c, _ := k.Get(name)
		if why := classfile.Right(c); why != api.OK {
			t.Errorf("%s is not right: %v", name, why)
		}
	}
}

// P7.2, P7.3: the chapter's runs and examples.
func TestRuns(t *testing.T) {
	k := kin.New()
	if got := k.Line("Index"); !slices.Equal(got, []string{"Index", "Throwable", "Object"}) {
		t.Errorf("Line(Index): %q", got)
	}
	if why := k.Add(class("A", "B")); why != api.ErrNone {
		t.Errorf("Add({A, super B}): %v", why)
	}
	if k.Sub("A", "A") {
		t.Error("Sub(A, A) of no A")
	}
	if why := k.Add(class("Object", "")); why != api.ErrTaken {
		t.Errorf("Add of Object: %v", why)
	}
	k = built(t, class("A", "Thread"))
	if at, m, ok := k.Method("A", "start", "()V"); at != "Thread" || !m.Native || !ok {
		t.Errorf("Method(A, start, ()V): %s, %+v, %v", at, m, ok)
	}
	c, _ := k.Get("Thread")
	c.Methods[0].Code[0] = 0
	if c, _ := k.Get("Thread"); c.Methods[0].Code[0] != 177 {
		t.Error("Get answers no copy")
	}
}

// P7.2: each fault alone, and whatever others come with it: the one that is named first is told.
func TestOrderOfRefusals(t *testing.T) {
	faults := []struct {
		why api.Errno
		put func(c *api.Class)
	}{
		{api.ErrDesc, func(c *api.Class) { c.Fields = append(c.Fields, api.Field{Name: "f", Desc: "V"}) }},
		{api.ErrTaken, func(c *api.Class) { c.Name = "Index" }},
		{api.ErrMany, func(c *api.Class) {}},
		{api.ErrNone, func(c *api.Class) { c.Super = "None" }},
		{api.ErrForm, func(c *api.Class) { c.Methods = append(c.Methods, native(false, "n", "()V")) }},
		{api.ErrTaken, func(c *api.Class) { c.Methods = append(c.Methods, method(true, "wait", "()V")) }},
	}
	for set := range 1 << len(faults) {
		for _, back := range []bool{false, true} {
			c, want := class("A", "Thread", method(false, "run", "()V")), api.OK
			for n := range faults {
				if set>>n&1 == 1 {
					faults[n].put(&c)
					if want == api.OK {
						want = faults[n].why
					}
				}
			}
			if back {
				slices.Reverse(c.Methods)
			}
			k := kin.New()
			if set>>2&1 == 1 {
				k = built(t, full()...)
			}
			if why := k.Add(c); why != want {
				t.Errorf("Add(%+v): %v, want %v", c, why, want)
			}
		}
	}
}

// wrong are classes that are none, each for another reason.
func wrong() []api.Class {
	long := strings.Repeat("n", 65)
	with := func(m api.Method) api.Class { return class("A", "Object", m) }
	return []api.Class{
		{}, class("", "Object"), class("1", "Object"), class("A", "1"), class(long, "Object"), class("A", long), class("LObject;", "Object"), class("A", "LObject;"), class("A\x00", "Object"),
		{Name: "A", Super: "Object", Pool: make([]api.Const, 257)}, {Name: "A", Super: "Object", Pool: make([]api.Const, 1)},
		{Name: "A", Super: "Object", Fields: make([]api.Field, 17)}, {Name: "A", Super: "Object", Fields: make([]api.Field, 1)},
		{Name: "A", Super: "Object", Fields: []api.Field{{Name: "f", Desc: "I"}, {Name: "f", Desc: "I", Static: true}}},
		{Name: "A", Super: "Object", Methods: make([]api.Method, 17)}, with(api.Method{}),
		class("A", "Object", method(false, "m", "()V"), method(true, "m", "()V")),
		with(api.Method{Name: "m", Desc: "()V", Stack: -1}), with(api.Method{Name: "m", Desc: "()V", Locals: math.MaxInt}), with(api.Method{Name: "m", Desc: "()V", Code: make([]byte, 1025)}),
		with(api.Method{Name: "m", Desc: "()V", Native: true, Code: []byte{177}}),
		with(api.Method{Name: "m", Desc: "()V", Handlers: make([]api.Handler, 1)}), with(api.Method{Name: "m", Desc: "()V", Frames: []api.Frame{{At: -1}}}),
		with(api.Method{Name: "m", Desc: "()V", Frames: []api.Frame{{Locals: make([]string, 17)}}}), with(api.Method{Name: "m", Desc: "()V", Frames: []api.Frame{{Stack: []string{"V"}}}}),
		{Name: "Object", Super: "1"}, {Name: "Object", Super: "None", Pool: make([]api.Const, 1)},
	}
}

// P7.2: what classfile.Right refuses is refused so, and is not there then.
func TestWrongClasses(t *testing.T) {
	k := kin.New()
	met := map[api.Errno]bool{}
	for _, c := range wrong() {
		want := classfile.Right(c)
		met[want] = true
		if why := k.Add(c); want == api.OK || why != want {
			t.Errorf("Add(%.300s): %v, want %v", told(c), why, want)
		}
	}
	if len(met) != 7 {
		t.Errorf("only %v", met)
	}
	mustTell(t, k, always())
}

// P7.2, R3: a refused class has left nothing, and what it lacked may come then.
func TestRefusedLeavesNothing(t *testing.T) {
	k, s := kin.New(), always()
	for _, step := range []struct {
		c   api.Class
		why api.Errno
	}{
		{class("B", "A"), api.ErrNone},
		{class("B", "B"), api.ErrNone},
		{class("B", ""), api.ErrNone},
		{class("B", "object"), api.ErrNone},
		{class("A", "Object", native(false, "m", "()V")), api.ErrForm},
		{class("A", "Object", native(true, "wait", "()V")), api.ErrForm},
		{class("A", "Object", method(true, "wait", "()V")), api.ErrTaken},
		{class("A", "System", method(false, "print", "(I)V")), api.ErrTaken},
		{class("Thread", "Object"), api.ErrTaken},
		{class("A", "Thread"), api.OK},
		{class("A", "Thread"), api.ErrTaken},
		{class("A", "Object", method(false, "m", "()V")), api.ErrTaken},
		{class("B", "A"), api.OK},
		{class("B", "A"), api.ErrTaken},
		{class("object", "B"), api.OK},
		{class("Objects", "object"), api.OK},
	} {
		var why api.Errno
		if s, why = mustAdd(t, k, s, step.c); why != step.why {
			t.Errorf("Add(%+v): %v, want %v", step.c, why, step.why)
		}
		mustTell(t, k, s)
	}
}

// P7.2: there may be MaxClasses, those among them that are always there; a name that is taken is told ahead of that, a super that is none behind it.
func TestMany(t *testing.T) {
	if api.MaxClasses != 32 {
		t.Fatal(api.MaxClasses)
	}
	k, s := kin.New(), always()
	for n := range 40 {
		c, want := numbered(n, s[len(s)-1].Name), api.OK
		if n >= 32-13 {
			want = api.ErrMany
		}
		var why api.Errno
		if s, why = mustAdd(t, k, s, c); why != want {
			t.Errorf("class %d: %v, want %v", 13+n+1, why, want)
		}
	}
	mustTell(t, k, s)
	if n := len(k.Line("X18")); n != 19+2 {
		t.Errorf("a line of %d", n)
	}
	for _, c := range []api.Class{class("A", "None"), class("A", ""), class("A", "A"), class("A", "Object", native(false, "m", "()V")), class("A", "Object", method(true, "wait", "()V"))} {
		if _, why := mustAdd(t, k, s, c); why != api.ErrMany {
			t.Errorf("Add(%+v): %v", c, why)
		}
	}
	if _, why := mustAdd(t, k, s, class("X18", "None")); why != api.ErrTaken {
		t.Errorf("Add of X18: %v", why)
	}
	mustTell(t, k, s)
}

// P7.2: lines of four classes, of which each has the method with one Static, with the other, or not at all.
func TestStatic(t *testing.T) {
	for _, top := range []string{"Object", "Thread", "System", "Index"} {
		for _, name := range []string{"m", "wait", "run", "print"} {
			for _, desc := range []string{"()V", "(I)V"} {
				for choice := range 3 * 3 * 3 * 3 {
					k, s, above := kin.New(), always(), top
					for n := range 4 {
						c := class(string(rune('A'+n)), above, method(false, "x", desc), method(true, name, "([I)V"))
						if has := choice % 3; has < 2 {
							c.Methods = append(c.Methods, method(has == 1, name, desc))
						}
						choice /= 3
						var why api.Errno
						if s, why = mustAdd(t, k, s, c); why == api.OK {
							above = c.Name
						}
					}
				}
			}
		}
	}
}

// P7.2: what must have one Static is a method of both its name and descriptor; fields are not asked.
func TestStaticOfOthers(t *testing.T) {
	a := class("A", "Object", method(true, "s", "()V"), method(false, "m", "()V"))
	a.Fields = []api.Field{{Name: "f", Desc: "I"}, {Name: "m", Desc: "I", Static: true}}
	b := class("B", "A", method(false, "s", "()I"), method(true, "m", "(I)V"), method(true, "t", "()V"), method(true, "s", "()V"), method(false, "m", "()V"), method(true, "f", "()V"))
	b.Fields = []api.Field{{Name: "f", Desc: "I", Static: true}, {Name: "m", Desc: "I"}}
	beside := class("C", "Object", method(false, "s", "()V"), method(true, "m", "()V"))
	mustTell(t, built(t, a, b, beside), append(always(), a, b, beside))
}

// P7.3: which of several is found, of fields and of methods: the nearest, by name and descriptor, Static or not.
func TestNearest(t *testing.T) {
	a := api.Class{Name: "A", Super: "Thread", Fields: []api.Field{{Name: "f", Desc: "I"}, {Name: "f", Desc: "LA;"}, {Name: "g", Desc: "I", Static: true}}, Methods: []api.Method{method(false, "m", "()V"), method(false, "m", "(I)V"), method(true, "s", "()V")}}
	b := api.Class{Name: "B", Super: "A", Fields: []api.Field{{Name: "g", Desc: "[I"}, {Name: "f", Desc: "I", Static: true}}, Methods: []api.Method{method(false, "run", "()V"), method(false, "m", "(I)V"), method(false, "wait", "()V")}}
	c := api.Class{Name: "C", Super: "B", Fields: []api.Field{{Name: "g", Desc: "I"}}, Methods: []api.Method{method(true, "s", "()V")}}
	k := built(t, a, b, c)
	for what, want := range map[string]string{
		"A f I": "A false", "B f I": "B true", "C f I": "B true", "C f LA;": "A false", "B g I": "A true", "C g I": "C false", "C g [I": "B false", "A g [I": "", "Thread f I": "", "C f [I": "", "D f I": "", "C m ()V": "", "C h I": "",
	} {
		x := strings.Fields(what)
		at, f, ok := k.Field(x[0], x[1], x[2])
		if got := strings.TrimSuffix(fmt.Sprint(at, " ", f.Static), " false"); got != strings.TrimSuffix(want, " false") || ok != (want != "") || ok && f.Name+f.Desc != x[1]+x[2] {
			t.Errorf("Field(%s): %s %+v %v, want %s", what, at, f, ok, want)
		}
	}
	for what, want := range map[string]string{
		"C m ()V": "A", "C m (I)V": "B", "A m (I)V": "A", "A s ()V": "A", "B s ()V": "A", "C s ()V": "C", "A run ()V": "Thread", "C run ()V": "B", "C start ()V": "Thread", "A wait ()V": "Object", "C wait ()V": "B", "C notifyAll ()V": "Object", "System sleep (I)V": "System",
		"C sleep (I)V": "", "Thread m ()V": "", "C m ()I": "", "C f I": "", "D m ()V": "", "Index run ()V": "", "C start (I)V": "",
	} {
		x := strings.Fields(what)
		at, m, ok := k.Method(x[0], x[1], x[2])
		if at != want || ok != (want != "") || ok && m.Name+m.Desc != x[1]+x[2] {
			t.Errorf("Method(%s): %s %+v %v, want %s", what, at, m, ok, want)
		}
	}
	mustTell(t, k, append(always(), a, b, c))
}
