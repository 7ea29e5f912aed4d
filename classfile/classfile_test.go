package classfile_test

import (
	"fmt"
	"math"
	"reflect"
	"regexp"
	"strings"
	"testing"

	"carafe/api"
	"carafe/classfile"
)

// slots says anew what P4.1 names a type of a frame.
var slots = regexp.MustCompile(`\A(?:[I?0]|\[?L[A-Za-z_$][A-Za-z0-9_$]{0,63};|\[I)\z`)

// P4.1: each text of up to four bytes that matter, and the longest.
func TestSlot(t *testing.T) {
	longest := strings.Repeat("n", 64)
	texts := []string{"L" + longest + ";", "[L" + longest + ";", "L" + longest + "n;", "[L" + longest + "n;", "L" + longest, "()V", "Lé;", "L\x00;", "?\x00", "\xff"}
	for _, s := range texts {
		texts = append(texts, "["+s, s+";", "I"+s, s+"I", s[1:], s[:len(s)-1])
	}
	texts = append(texts, short("I?0LAV[;1a", 4)...)
	yes := 0
	for _, s := range texts {
		want := slots.MatchString(s)
		if classfile.Slot(s) != want {
			t.Errorf("Slot(%q): %v", s, !want)
		}
		if want {
			yes++
		}
	}
	if yes < 20 {
		t.Errorf("only %d of %d texts are slots", yes, len(texts))
	}
}

// short are all texts of up to n of these bytes.
func short(bytes string, n int) []string {
	all := []string{""}
	for from := 0; n > 0; n-- {
		to := len(all)
		for _, s := range all[from:to] {
			for _, b := range bytes {
				all = append(all, s+string(b))
			}
		}
		from = to
	}
	return all
}

// wide is a method's descriptor of that many bytes, from 202 to 268.
func wide(n int) string {
	long := "L" + strings.Repeat("n", 64) + ";"
	return "(" + long + long + long + "L" + strings.Repeat("m", n-203) + ";)V"
}

// whole is a class that has some of each part.
func whole() api.Class {
	return api.Class{
		Name: "A", Super: "B_1",
		Pool: []api.Const{
			{Kind: api.ConstInt, N: -7},
			{Kind: api.ConstClass, Class: "[I"},
			{Kind: api.ConstField, Class: "A", Name: "f", Desc: "[LA;"},
			{Kind: api.ConstMethod, Class: "A", Name: "m", Desc: "(I)V"},
			{Kind: api.ConstInt, N: -7},
		},
		Fields: []api.Field{{Name: "f", Desc: "I"}, {Name: "f", Desc: "LA;", Static: true}, {Name: "g", Desc: "I"}},
		Methods: []api.Method{
			{
				Name: "m", Desc: "(I)V", Static: true, Stack: 2, Locals: 3, Code: []byte{0, 177, 255},
				Handlers: []api.Handler{{From: 0, To: 1, At: 2, Type: "E"}, {From: 258, To: 0, At: 65535, Type: "$"}, {From: 65535, To: 65535, At: 772, Type: "E"}},
				Frames: []api.Frame{
					{At: 1, Locals: []string{"I", "?", "0"}, Stack: []string{"[I", "LA;"}},
					{At: 65535, Stack: []string{"[LA;"}},
					{At: 1, Locals: []string{"?"}},
					{},
				},
			},
			{Name: "m", Desc: "()V", Stack: 16, Locals: 16, Code: []byte{177}},
			{Name: "n", Desc: "(I)V", Native: true},
			{Name: "o", Desc: "([ILA;)[LA;", Static: true, Native: true},
			{Name: "o", Desc: "()I"},
		},
	}
}

// fault is one thing that is wrong: put into part n of a class.
type fault struct {
	why api.Errno
	put func(c *api.Class, n int)
}

func class(why api.Errno, put func(c *api.Class)) fault {
	return fault{why, func(c *api.Class, _ int) { put(c) }}
}

// classFaults are in the order in which P4.1 names them; those of one list are named at once.
func classFaults() [][]fault {
	return [][]fault{
		{
			class(api.ErrDesc, func(c *api.Class) { c.Name = "" }),
			class(api.ErrDesc, func(c *api.Class) { c.Name = "1" }),
			class(api.ErrDesc, func(c *api.Class) { c.Name = "a/b" }),
			class(api.ErrDesc, func(c *api.Class) { c.Name = "[I" }),
			class(api.ErrDesc, func(c *api.Class) { c.Name = strings.Repeat("n", 65) }),
			class(api.ErrDesc, func(c *api.Class) { c.Super = "1" }),
			class(api.ErrDesc, func(c *api.Class) { c.Super = "[" }),
			class(api.ErrDesc, func(c *api.Class) { c.Super = strings.Repeat("n", 65) }),
		}, {
			class(api.ErrMany, func(c *api.Class) { c.Pool = append(c.Pool, numbers(257-len(c.Pool))...) }),
			class(api.ErrMany, func(c *api.Class) { c.Pool = append(c.Pool, make([]api.Const, 1000)...) }),
			class(api.ErrMany, func(c *api.Class) { c.Fields = append(c.Fields, fieldsNamed("k", 17-len(c.Fields))...) }),
			class(api.ErrMany, func(c *api.Class) { c.Fields = append(c.Fields, make([]api.Field, 1000)...) }),
			class(api.ErrMany, func(c *api.Class) { c.Methods = append(c.Methods, methodsNamed("k", 17-len(c.Methods))...) }),
			class(api.ErrMany, func(c *api.Class) { c.Methods = append(c.Methods, make([]api.Method, 1000)...) }),
		}, {
			class(api.ErrRef, func(c *api.Class) { c.Pool[0].Kind = 4 }),
			class(api.ErrRef, func(c *api.Class) { c.Pool[1].Class = "LA;" }),
			class(api.ErrRef, func(c *api.Class) { c.Pool[3].Desc = wide(257) }),
			class(api.ErrRef, func(c *api.Class) { c.Pool[4].Name = "x" }),
		},
	}
}

// fieldFaults may stand in any field but the first.
func fieldFaults() [][]fault {
	put := func(why api.Errno, put func(f, first *api.Field)) fault {
		return fault{why, func(c *api.Class, n int) { put(&c.Fields[n], &c.Fields[0]) }}
	}
	return [][]fault{
		{
			put(api.ErrDesc, func(f, _ *api.Field) { f.Name = "" }),
			put(api.ErrDesc, func(f, _ *api.Field) { f.Name = "2f" }),
			put(api.ErrDesc, func(f, _ *api.Field) { f.Desc = "" }),
			put(api.ErrDesc, func(f, _ *api.Field) { f.Desc = "V" }),
			put(api.ErrDesc, func(f, _ *api.Field) { f.Desc = "0" }),
			put(api.ErrDesc, func(f, _ *api.Field) { f.Desc = "()V" }),
		}, {
			put(api.ErrTaken, func(f, first *api.Field) { f.Name, f.Desc = first.Name, first.Desc }),
			put(api.ErrTaken, func(f, first *api.Field) { *f = *first; f.Static = !f.Static }),
		},
	}
}

// methodFaults may stand in any method but the first, if it is not Native.
func methodFaults() [][]fault {
	put := func(why api.Errno, put func(m, first *api.Method)) fault {
		return fault{why, func(c *api.Class, n int) { put(&c.Methods[n], &c.Methods[0]) }}
	}
	handler := func(h api.Handler) fault {
		return put(api.ErrForm, func(m, _ *api.Method) { m.Handlers = append(m.Handlers, h) })
	}
	frame := func(why api.Errno, f api.Frame) fault {
		return put(why, func(m, _ *api.Method) { m.Frames = append(m.Frames, f) })
	}
	return [][]fault{
		{
			put(api.ErrDesc, func(m, _ *api.Method) { m.Name = "" }),
			put(api.ErrDesc, func(m, _ *api.Method) { m.Name = "<init>" }),
			put(api.ErrDesc, func(m, _ *api.Method) { m.Desc = "" }),
			put(api.ErrDesc, func(m, _ *api.Method) { m.Desc = "I" }),
			put(api.ErrDesc, func(m, _ *api.Method) { m.Desc = "(V)V" }),
			put(api.ErrDesc, func(m, _ *api.Method) { m.Desc = "(IIIIIIIII)V" }),
			put(api.ErrDesc, func(m, _ *api.Method) { m.Desc = wide(257) }),
		}, {
			put(api.ErrTaken, func(m, first *api.Method) { m.Name, m.Desc = first.Name, first.Desc }),
			put(api.ErrTaken, func(m, first *api.Method) { m.Name, m.Desc, m.Static = first.Name, first.Desc, !first.Static }),
		}, {
			put(api.ErrLong, func(m, _ *api.Method) { m.Stack = -1 }),
			put(api.ErrLong, func(m, _ *api.Method) { m.Stack = 17 }),
			put(api.ErrLong, func(m, _ *api.Method) { m.Stack = 256 }),
			put(api.ErrLong, func(m, _ *api.Method) { m.Stack = math.MinInt }),
			put(api.ErrLong, func(m, _ *api.Method) { m.Locals = -1 }),
			put(api.ErrLong, func(m, _ *api.Method) { m.Locals = 17 }),
			put(api.ErrLong, func(m, _ *api.Method) { m.Locals = math.MaxInt }),
			put(api.ErrLong, func(m, _ *api.Method) { m.Code = make([]byte, 1025) }),
			put(api.ErrLong, func(m, _ *api.Method) { m.Code = make([]byte, 65536) }),
		}, {
			put(api.ErrForm, func(m, _ *api.Method) { m.Native, m.Code = true, []byte{177} }),
			put(api.ErrForm, func(m, _ *api.Method) { m.Native, m.Handlers = true, make([]api.Handler, 65) }),
			put(api.ErrForm, func(m, _ *api.Method) { m.Native, m.Frames = true, make([]api.Frame, 65) }),
		}, {
			put(api.ErrMany, func(m, _ *api.Method) { m.Handlers = append(m.Handlers, handlers(65-len(m.Handlers))...) }),
			put(api.ErrMany, func(m, _ *api.Method) { m.Frames = append(m.Frames, make([]api.Frame, 65)...) }),
			put(api.ErrMany, func(m, _ *api.Method) { m.Handlers = append(m.Handlers, make([]api.Handler, 1000)...) }),
		}, {
			handler(api.Handler{From: -1, Type: "E"}), handler(api.Handler{From: 65536, Type: "E"}),
			handler(api.Handler{To: -1, Type: "E"}), handler(api.Handler{To: 65536, Type: "E"}),
			handler(api.Handler{At: -1, Type: "E"}), handler(api.Handler{At: 65536, Type: "E"}),
			handler(api.Handler{At: math.MinInt, Type: "E"}), handler(api.Handler{To: math.MaxInt, Type: "E"}),
			handler(api.Handler{}), handler(api.Handler{Type: "LE;"}), handler(api.Handler{Type: "[I"}), handler(api.Handler{Type: strings.Repeat("n", 65)}),
			frame(api.ErrForm, api.Frame{At: -1}), frame(api.ErrForm, api.Frame{At: 65536}), frame(api.ErrForm, api.Frame{At: math.MinInt}),
		}, {
			frame(api.ErrLong, api.Frame{Locals: slotsOf("I", 17)}), frame(api.ErrLong, api.Frame{Locals: slotsOf("", 17)}), frame(api.ErrLong, api.Frame{Locals: slotsOf("I", 300)}),
			frame(api.ErrLong, api.Frame{Stack: slotsOf("I", 17)}), frame(api.ErrLong, api.Frame{Stack: slotsOf("", 17)}), frame(api.ErrLong, api.Frame{Stack: slotsOf("I", 300)}),
		}, {
			frame(api.ErrType, api.Frame{Locals: []string{""}}), frame(api.ErrType, api.Frame{Locals: append(slotsOf("I", 15), "V")}),
			frame(api.ErrType, api.Frame{Stack: []string{"[[I"}}), frame(api.ErrType, api.Frame{Stack: append(slotsOf("I", 15), "A")}),
		},
	}
}

func numbers(n int) []api.Const {
	l := make([]api.Const, max(n, 0))
	for i := range l {
		l[i] = api.Const{Kind: api.ConstInt, N: int32(i)}
	}
	return l
}

func named(s string, n int) string { return s + string(rune('a'+n/26)) + string(rune('a'+n%26)) }

func fieldsNamed(s string, n int) []api.Field {
	l := make([]api.Field, max(n, 0))
	for i := range l {
		l[i] = api.Field{Name: named(s, i), Desc: "I"}
	}
	return l
}

func methodsNamed(s string, n int) []api.Method {
	l := make([]api.Method, max(n, 0))
	for i := range l {
		l[i] = api.Method{Name: named(s, i), Desc: "()V"}
	}
	return l
}

func handlers(n int) []api.Handler {
	l := make([]api.Handler, max(n, 0))
	for i := range l {
		l[i] = api.Handler{From: i, To: i + 1, At: i, Type: "E"}
	}
	return l
}

func slotsOf(s string, n int) []string {
	l := make([]string, n)
	for i := range l {
		l[i] = s
	}
	return l
}

// mustBe holds Right, and Encode, which answers what Right does and no bytes beside it.
func mustBe(t *testing.T, c api.Class, want api.Errno) {
	t.Helper()
	if why := classfile.Right(c); why != want {
		t.Errorf("Right: %v, want %v of %.400s", why, want, fmt.Sprint(c))
	}
	if b, why := classfile.Encode(c); why != want || (len(b) > 0) != (want == api.OK) {
		t.Errorf("Encode: %d bytes, %v, want %v of %.400s", len(b), why, want, fmt.Sprint(c))
	}
}

// P4.1: the run, the examples, and what is right at its edges.
func TestRight(t *testing.T) {
	mustBe(t, whole(), api.OK)
	mustBe(t, api.Class{Name: "A"}, api.OK)
	mustBe(t, api.Class{Name: "A", Super: "A"}, api.OK)
	mustBe(t, api.Class{Name: strings.Repeat("n", 64), Super: strings.Repeat("m", 64)}, api.OK)
	mustBe(t, api.Class{Name: "A", Pool: numbers(256), Fields: fieldsNamed("f", 16), Methods: methodsNamed("m", 16)}, api.OK)
	mustBe(t, api.Class{Name: "1"}, api.ErrDesc)
	mustBe(t, api.Class{}, api.ErrDesc)
	mustBe(t, api.Class{Name: "A", Methods: []api.Method{{Name: "m", Desc: "()V"}, {Name: "m", Desc: "()V"}}}, api.ErrTaken)
	mustBe(t, api.Class{Name: "A", Methods: []api.Method{{Name: "m", Desc: "()V", Native: true, Code: []byte{177}}}}, api.ErrForm)
	edge := api.Method{
		Name: "m", Desc: wide(256), Stack: 16, Locals: 16, Code: make([]byte, 1024), Handlers: handlers(64), Frames: make([]api.Frame, 64),
	}
	edge.Handlers[63] = api.Handler{From: 65535, To: 65535, At: 65535, Type: strings.Repeat("n", 64)}
	edge.Frames[63] = api.Frame{At: 65535, Locals: slotsOf("?", 16), Stack: slotsOf("0", 16)}
	mustBe(t, api.Class{Name: "A", Methods: []api.Method{edge}}, api.OK)
	native := api.Method{Name: "m", Desc: "()V", Native: true, Code: []byte{}, Handlers: []api.Handler{}, Frames: []api.Frame{}}
	mustBe(t, api.Class{Name: "A", Methods: []api.Method{native}}, api.OK)
}

// P4.1: a native method has nothing of a body.
func TestNative(t *testing.T) {
	for _, put := range []func(m *api.Method){
		func(m *api.Method) { m.Code = []byte{0} },
		func(m *api.Method) { m.Handlers = handlers(1) },
		func(m *api.Method) { m.Frames = make([]api.Frame, 1) },
		func(m *api.Method) { m.Stack = 1 },
		func(m *api.Method) { m.Locals = 1 },
	} {
		m := api.Method{Name: "m", Desc: "()V"}
		put(&m)
		mustBe(t, api.Class{Name: "A", Methods: []api.Method{m}}, api.OK)
		m.Native = true
		mustBe(t, api.Class{Name: "A", Methods: []api.Method{m}}, api.ErrForm)
	}
}

// P4.1: fields and methods are taken by their name and descriptor alone, and by none of the other list.
func TestTaken(t *testing.T) {
	c := api.Class{Name: "m", Super: "m", Fields: []api.Field{{Name: "m", Desc: "I"}, {Name: "m", Desc: "[I"}, {Name: "n", Desc: "I"}}, Methods: []api.Method{{Name: "m", Desc: "()I"}, {Name: "m", Desc: "()V"}, {Name: "n", Desc: "()I"}}}
	mustBe(t, c, api.OK)
	c.Fields[2].Name = "m"
	mustBe(t, c, api.ErrTaken)
	c.Fields[2].Desc = "[I"
	mustBe(t, c, api.ErrTaken)
	c.Fields = nil
	c.Methods[2].Name = "m"
	mustBe(t, c, api.ErrTaken)
	c.Methods[2].Desc = "()V"
	mustBe(t, c, api.ErrTaken)
}

// with is a class with these faults, the first put last so that it stands whatever the others change.
func with(n int, l ...fault) api.Class {
	c := whole()
	for i := range l {
		l[len(l)-1-i].put(&c, n)
	}
	return c
}

// P4.1: each fault alone; of two the one that is named first.
func TestOrderOfRefusals(t *testing.T) {
	ranks := append(append(classFaults(), fieldFaults()...), methodFaults()...)
	told := 0
	for i, rank := range ranks {
		for _, f := range rank {
			mustBe(t, with(1, f), f.why)
			for _, later := range ranks[i+1:] {
				for _, g := range later {
					mustBe(t, with(1, f, g), f.why)
					told++
				}
			}
		}
	}
	if told < 1000 {
		t.Errorf("only %d pairs", told)
	}
}

// P4.1: what stands first is asked whole ahead of what stands behind it.
func TestFirstFieldAndMethod(t *testing.T) {
	for _, ranks := range [][][]fault{fieldFaults(), methodFaults()} {
		for _, rank := range ranks {
			for _, f := range rank {
				for _, other := range ranks {
					for _, g := range other {
						c := whole()
						c.Methods = append(c.Methods[:2], c.Methods[4])
						g.put(&c, 2)
						f.put(&c, 1)
						mustBe(t, c, f.why)
					}
				}
			}
		}
	}
}

// P4.1: within one method one thing is asked of all handlers and frames ahead of the next.
func TestOrderOfMarks(t *testing.T) {
	ranks := methodFaults()
	for i, rank := range ranks[5:] {
		for _, f := range rank {
			for _, earlier := range ranks[5 : 5+i] {
				for _, g := range earlier {
					c := whole()
					f.put(&c, 1)
					g.put(&c, 1)
					mustBe(t, c, g.why)
				}
			}
		}
	}
}

// R2, R5: what is handed in stays as it is, and what is behind a list's length is not read.
func TestLeavesTheClass(t *testing.T) {
	c := whole()
	c.Pool = append(c.Pool, api.Const{Kind: 1})[:len(c.Pool)]
	c.Fields = append(c.Fields, c.Fields[0])[:len(c.Fields)]
	c.Methods = append(c.Methods, c.Methods[0])[:len(c.Methods)]
	m := &c.Methods[0]
	m.Handlers = append(m.Handlers, api.Handler{From: -1})[:len(m.Handlers)]
	m.Frames = append(m.Frames, api.Frame{At: -1})[:len(m.Frames)]
	f := &m.Frames[0]
	f.Locals = append(f.Locals, "V")[:len(f.Locals)]
	f.Stack = append(f.Stack, "V")[:len(f.Stack)]
	mustBe(t, c, api.OK)
	if !reflect.DeepEqual(c, whole()) || c.Pool[:6][5].Kind != 1 || c.Fields[:4][3] != c.Fields[0] || m.Handlers[:4][3].From != -1 || f.Locals[:4][3] != "V" {
		t.Errorf("changed: %+v", c)
	}
}
