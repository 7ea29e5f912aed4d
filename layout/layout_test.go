package layout_test

import (
	"fmt"
	"slices"
	"strings"
	"testing"

	"carafe/api"
	"carafe/kin"
	"carafe/layout"
)

// class is written as "Name Super", and its parts, each one word: a field "x:I", a method "m()V"; one that is Static begins with a "/".
func class(text string) api.Class {
	words := strings.Fields(text)
	c := api.Class{Name: words[0], Super: words[1]}
	for _, w := range words[2:] {
		w, static := strings.CutPrefix(w, "/")
		if name, desc, ok := strings.Cut(w, ":"); ok {
			c.Fields = append(c.Fields, api.Field{Name: name, Desc: desc, Static: static})
			continue
		}
		n := strings.Index(w, "(")
		c.Methods = append(c.Methods, api.Method{Name: w[:n], Desc: w[n:], Static: static, Code: []byte{api.Return}})
	}
	return c
}

func built(t *testing.T, l ...string) *kin.Kin {
	t.Helper()
	k := kin.New()
	for _, text := range l {
		if why := k.Add(class(text)); why != api.OK {
			t.Fatalf("Add(%s): %v", text, why)
		}
	}
	return k
}

func laid(t *testing.T, k *kin.Kin) *layout.Layout {
	t.Helper()
	l, why := layout.New(k)
	if l == nil || why != api.OK {
		t.Fatalf("New: %v", why)
	}
	return l
}

// mustLie makes a Layout of these classes, and holds it against what is said anew.
func mustLie(t *testing.T, texts ...string) *layout.Layout {
	t.Helper()
	k := built(t, texts...)
	l := laid(t, k)
	mustTell(t, l, sayings(k))
	return l
}

// mustBe holds answers, each named by the words that are asked, against what is wanted.
func mustBe(t *testing.T, what string, ask func(w []string) string, wants map[string]string) {
	t.Helper()
	for text, want := range wants {
		if got := ask(strings.Fields(text)); got != want {
			t.Errorf("%s(%s): %s, want %s", what, text, got, want)
		}
	}
}

func three(f func(a, b, c string) (int, bool)) func(w []string) string {
	return func(w []string) string { return fmt.Sprint(f(w[0], w[1], w[2])) }
}

func selected(l *layout.Layout) func(w []string) string {
	return func(w []string) string {
		n := 0
		fmt.Sscan(w[1], &n)
		at, x, ok := l.Select(w[0], n)
		return fmt.Sprint(at, " ", x, " ", ok)
	}
}

// P16.1, P16.2, P16.3: the chapter's runs and examples, and all else that a new Kin's classes have.
func TestRuns(t *testing.T) {
	l := mustLie(t)
	if a, b := l.Slots("Object"), l.Slots("Thread"); a != 3 || b != 6 {
		t.Errorf("Slots: %d, %d", a, b)
	}
	if at, n, ok := l.Select("Thread", 0); at != "Object" || n != 0 || !ok {
		t.Errorf("Select(Thread, 0): %s, %d, %v", at, n, ok)
	}
	if f := l.Fields("Object"); len(f) != 0 {
		t.Errorf("Fields(Object): %v", f)
	}
	if n, ok := mustLie(t, "A Object /s:I x:I").Offset("A", "s", "I"); n != 0 || ok {
		t.Errorf("Offset of a Static field: %d, %v", n, ok)
	}
	if at, n, ok := l.Select("Object", 3); at != "" || n != 0 || ok {
		t.Errorf("Select of no slot: %s, %d, %v", at, n, ok)
	}
	if n := l.Slots("None"); n != 0 {
		t.Errorf("Slots of no class: %d", n)
	}
	if f := l.Statics(); len(f) != 0 {
		t.Errorf("Statics: %v", f)
	}
}

// P16.1: of nil there is none.
func TestNil(t *testing.T) {
	if l, why := layout.New(nil); l != nil || why != api.ErrArg {
		t.Errorf("%v, %v", l, why)
	}
}

// P16.1: classes have their places in the order in which they came, wherever they stand.
func TestPlaces(t *testing.T) {
	l := mustLie(t, "Z Object", "B Z", "A Object", "Y B", "C Thread")
	for n, name := range strings.Fields("Object Throwable Arithmetic NullPointer Index NegativeSize Cast Store Monitor Memory Stack Thread System Z B A Y C") {
		if at, ok := l.Class(name); at != n || !ok {
			t.Errorf("Class(%s): %d, %v", name, at, ok)
		}
	}
	for _, name := range others {
		if at, ok := l.Class(name); at != 0 || ok {
			t.Errorf("Class(%q): %d, %v", name, at, ok)
		}
	}
}

// P16.1, R2: a Layout is of the classes as they were when it was made, and another one of the same Kin is of those that there are then.
func TestOfNow(t *testing.T) {
	k := built(t, "A Thread x:I /s:LA; m()V")
	one, was := laid(t, k), sayings(k)
	for _, text := range []string{"B A y:[I /s:I m()V n()V", "C Object z:LB; /u:LB; n()V", "D B"} {
		if why := k.Add(class(text)); why != api.OK {
			t.Fatal(why)
		}
		mustTell(t, one, was)
		mustTell(t, laid(t, k), sayings(k))
	}
	for _, name := range []string{"B", "C", "D"} {
		if n, ok := one.Class(name); n != 0 || ok || one.Fields(name) != nil || one.Slots(name) != 0 {
			t.Errorf("%s is seen", name)
		}
	}
}

// R2: the Kin is left as it is.
func TestLeavesTheKin(t *testing.T) {
	k := built(t, "A Thread x:I /s:LA; m()V", "B A x:I run()V")
	want := told(sayings(k))
	l := laid(t, k)
	mustTell(t, l, sayings(k))
	if got := told(sayings(k)); got != want {
		t.Errorf("%s, was %s", got, want)
	}
}

// P16.2: which of an object's fields are references, those of the farthest class first, whatever Static ones stand between.
func TestFields(t *testing.T) {
	l := mustLie(t, "A Object x:I /s:LA; y:LObject; z:[I /t:I u:[LA;", "B A /v:I x:LB;", "C B", "D A x:I y:I", "E Object")
	for name, want := range map[string]string{
		"A": "[false true true true]", "B": "[false true true true true]", "C": "[false true true true true]", "D": "[false true true true false false]",
		"E": "[]", "Object": "[]", "Thread": "[]", "None": "[]", "": "[]", "LA;": "[]",
	} {
		if got := fmt.Sprint(l.Fields(name)); got != want {
			t.Errorf("Fields(%q): %s, want %s", name, got, want)
		}
	}
	mustBe(t, "Offset", three(l.Offset), map[string]string{
		"A x I": "0 true", "A y LObject;": "1 true", "A z [I": "2 true", "A u [LA;": "3 true",
		"C x I": "0 true", "C u [LA;": "3 true", "B x LB;": "4 true", "C x LB;": "4 true",
		"D x I": "4 true", "D y I": "5 true", "D y LObject;": "1 true",
		"A x LB;": "0 false", "D x LB;": "0 false", "A s LA;": "0 false", "B v I": "0 false", "A x LA;": "0 false", "E x I": "0 false", "Object x I": "0 false", "None x I": "0 false", "A m I": "0 false", "A x i": "0 false",
	})
}

// P16.2: what is Static is numbered by the order in which classes came, not by their lines, and found by lines.
func TestStatics(t *testing.T) {
	l := mustLie(t, "A Object x:I /a:I y:I /b:[I", "B Object /c:LB;", "C A z:LC; /a:LC; /d:I", "D B /c:[LB; /c:LB; /a:I", "E C")
	if got := fmt.Sprint(l.Statics()); got != "[false true true true false true true false]" {
		t.Errorf("Statics: %s", got)
	}
	mustBe(t, "Static", three(l.Static), map[string]string{
		"A a I": "0 true", "A b [I": "1 true", "B c LB;": "2 true", "C a LC;": "3 true", "C d I": "4 true", "D c [LB;": "5 true", "D c LB;": "6 true", "D a I": "7 true",
		"C a I": "0 true", "E a I": "0 true", "E a LC;": "3 true", "E b [I": "1 true", "E d I": "4 true",
		"A x I": "0 false", "C z LC;": "0 false", "A a LC;": "0 false", "B a I": "0 false", "A d I": "0 false", "Object a I": "0 false", "None a I": "0 false", "A A I": "0 false",
	})
}

// P16.2: the nearest field hides those above it, of the other Static too: these keep their places.
func TestHides(t *testing.T) {
	l := mustLie(t, "A Object x:I y:[I /s:I /u:LA;", "B A /x:I s:I y:[I", "C B /y:[I x:I /s:I", "D C")
	mustBe(t, "Offset", three(l.Offset), map[string]string{
		"A x I": "0 true", "B x I": "0 false", "C x I": "4 true", "D x I": "4 true",
		"A y [I": "1 true", "B y [I": "3 true", "C y [I": "0 false", "D y [I": "0 false",
		"A s I": "0 false", "B s I": "2 true", "C s I": "0 false", "D s I": "0 false",
	})
	mustBe(t, "Static", three(l.Static), map[string]string{
		"A x I": "0 false", "B x I": "2 true", "C x I": "0 false",
		"B y [I": "0 false", "C y [I": "3 true", "D y [I": "3 true",
		"A s I": "0 true", "B s I": "0 false", "C s I": "4 true", "D s I": "4 true", "D u LA;": "1 true",
	})
	if got := fmt.Sprint(l.Fields("D"), l.Statics()); got != "[false true false true false] [false true false true false]" {
		t.Error(got)
	}
}

// P16.3: a method has the slot that one above has for its Name and Desc, else the next one; a Static one has none, though it has a number.
func TestSlots(t *testing.T) {
	l := mustLie(t, "A Thread /s()V m()V run()V m(I)V /m()I x:I m:I", "B A n()V m(I)V /s()V /t()V notify()V", "C B", "D A n()V", "E Object run()V wait()V")
	for name, want := range map[string]int{"Object": 3, "Throwable": 3, "Stack": 3, "System": 3, "Thread": 6, "A": 8, "B": 9, "C": 9, "D": 9, "E": 4, "None": 0, "": 0, "LA;": 0} {
		if n := l.Slots(name); n != want {
			t.Errorf("Slots(%q): %d, want %d", name, n, want)
		}
	}
	mustBe(t, "Slot", three(l.Slot), map[string]string{
		"Object wait ()V": "0 true", "Object notify ()V": "1 true", "Object notifyAll ()V": "2 true", "System notifyAll ()V": "2 true",
		"Thread run ()V": "3 true", "Thread start ()V": "4 true", "Thread join ()V": "5 true", "C run ()V": "3 true", "E run ()V": "3 true", "E wait ()V": "0 true",
		"A m ()V": "6 true", "C m ()V": "6 true", "A m (I)V": "7 true", "B m (I)V": "7 true", "B n ()V": "8 true", "C n ()V": "8 true", "D n ()V": "8 true", "B notify ()V": "1 true",
		"A s ()V": "0 false", "C s ()V": "0 false", "A m ()I": "0 false", "B t ()V": "0 false", "System print (I)V": "0 false", "A n ()V": "0 false", "A x I": "0 false", "A m I": "0 false", "A m ([I)V": "0 false", "None wait ()V": "0 false",
	})
	mustBe(t, "Select", selected(l), map[string]string{
		"Object 2": "Object 2 true", "Thread 2": "Object 2 true", "Thread 5": "Thread 2 true", "Index 1": "Object 1 true",
		"A 3": "A 2 true", "C 3": "A 2 true", "A 6": "A 1 true", "B 6": "A 1 true", "A 7": "A 3 true", "B 7": "B 1 true", "C 7": "B 1 true", "D 7": "A 3 true",
		"B 8": "B 0 true", "C 8": "B 0 true", "D 8": "D 0 true", "B 1": "B 4 true", "A 1": "Object 1 true", "E 3": "E 0 true", "E 0": "E 1 true", "E 1": "Object 1 true",
		"A 8": " 0 false", "C 9": " 0 false", "C -1": " 0 false", "Object 3": " 0 false", "None 0": " 0 false", "E 4": " 0 false",
	})
}

// P16.4: of classes below the same one each has its own fields and slots behind the same ones.
func TestBeside(t *testing.T) {
	for n := range 16 {
		above := "A Object"
		for i := range n {
			above += fmt.Sprintf(" f%d:I m%d()V", i, i)
		}
		l := mustLie(t, above, "B A x:LB; b()V", "C A y:I c()V m0()V", "D B y:I d()V", "E B z:LB; e()V b()V")
		if b, c := l.Fields("B"), l.Fields("C"); !b[n] || c[n] {
			t.Errorf("behind %d: %v, %v", n, b, c)
		}
		if b, _, _ := l.Select("B", 3+n); b != "B" {
			t.Errorf("behind %d: %s", n, b)
		}
	}
}

// P16.2, P16.3, the limits: as many classes as there may be, of as many fields and methods, below one another and beside one another.
func TestMost(t *testing.T) {
	for _, super := range []string{"Object", "above", "Thread"} {
		k, above := kin.New(), "Object"
		for n := range api.MaxClasses - 13 {
			text := fmt.Sprintf("X%d %s", n, above)
			for i := range api.MaxFields {
				text += fmt.Sprintf(" %sf%d:%s", strings.Repeat("/", n*i%3%2), i, []string{"I", "[I", "LObject;"}[(n+i)%3])
			}
			for i := range api.MaxMethods {
				text += fmt.Sprintf(" %sm%d_%d()V", strings.Repeat("/", i%5/4), n*(i%2), i)
			}
			if why := k.Add(class(text)); why != api.OK {
				t.Fatalf("Add(%s): %v", text, why)
			}
			if above = super; super == "above" {
				above = fmt.Sprint("X", n)
			}
		}
		mustTell(t, laid(t, k), sayings(k))
	}
	texts, above := []string{}, "Object"
	for n := range api.MaxClasses - 13 {
		text := fmt.Sprintf("X%d %s", n, above)
		for i := range api.MaxFields {
			text += fmt.Sprintf(" f%d:I m%d_%d()V", i, n, i)
		}
		texts, above = append(texts, text), fmt.Sprint("X", n)
	}
	l := mustLie(t, texts...)
	if f, n := len(l.Fields("X18")), l.Slots("X18"); f != 19*16 || n != 3+19*16 {
		t.Errorf("%d fields, %d slots", f, n)
	}
	if at, n, ok := l.Select("X18", 3+19*16-1); at != "X18" || n != 15 || !ok {
		t.Errorf("%s, %d, %v", at, n, ok)
	}
	if n, ok := l.Offset("X18", "f15", "I"); n != 19*16-1 || !ok {
		t.Errorf("%d, %v", n, ok)
	}
}

// R2: what is done to an answer, its spare room too, shows in no other one.
func TestNewMemory(t *testing.T) {
	k := built(t, "A Object x:I y:LA; /s:I /u:LA; z:I", "B A x:I /s:LA; y:I", "C A", "D B x:LA;")
	l, s := laid(t, k), sayings(k)
	names := append(k.Names(), "None")
	for _, name := range names {
		f := l.Fields(name)
		kept := slices.Clone(f)
		g := l.Fields(name)
		wipe(g)
		if !slices.Equal(f, kept) {
			t.Errorf("Fields(%s)", name)
		}
		wipe(f)
		mustTell(t, l, s)
	}
	f, g := l.Statics(), l.Statics()
	kept := slices.Clone(f)
	wipe(g)
	if !slices.Equal(f, kept) {
		t.Error("Statics")
	}
	wipe(f)
	mustTell(t, l, s)
	mustTell(t, laid(t, k), s)
}

// wipe changes all of l, its spare room too.
func wipe(l []bool) {
	l = l[:cap(l)]
	for n := range l {
		l[n] = !l[n]
	}
}

// R4: nil and empty lists mean the same.
func TestEmptyLists(t *testing.T) {
	k := kin.New()
	for n, c := range []api.Class{
		{Name: "A", Super: "Object", Fields: []api.Field{}, Methods: []api.Method{}},
		{Name: "B", Super: "A"},
	} {
		if why := k.Add(c); why != api.OK {
			t.Fatal(n, why)
		}
	}
	mustTell(t, laid(t, k), sayings(k))
}
