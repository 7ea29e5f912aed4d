package maps_test

import (
	"math"
	"slices"
	"strconv"
	"strings"
	"testing"

	"carafe/api"
	"carafe/kin"
	"carafe/maps"
)

// world is a Kin with the classes A and B below it, and the class whose methods are mapped: A, with some constants.
func world(t testing.TB) (*kin.Kin, api.Class) {
	t.Helper()
	k := kin.New()
	for _, c := range []api.Class{{Name: "A", Super: "Object", Fields: []api.Field{{Name: "f", Desc: "LA;"}}}, {Name: "B", Super: "A"}} {
		if why := k.Add(c); why != api.OK {
			t.Fatal(why)
		}
	}
	return k, api.Class{Name: "A", Super: "Object", Pool: []api.Const{
		{Kind: api.ConstClass, Class: "B"}, {Kind: api.ConstField, Class: "A", Name: "f", Desc: "LA;"}, {Kind: api.ConstInt, N: 7}}}
}

// list is a list of words.
func list(s string) []string { return strings.Fields(s) }

// stands is a frame.
func stands(at int, locals, stack string) api.Frame {
	return api.Frame{At: at, Locals: list(locals), Stack: list(stack)}
}

// method is a static one.
func method(desc string, stack, locals int, b ...byte) api.Method {
	return api.Method{Name: "m", Desc: desc, Static: true, Stack: stack, Locals: locals, Code: b}
}

// with is m with handlers and frames.
func with(m api.Method, h []api.Handler, f ...api.Frame) api.Method {
	m.Handlers, m.Frames = h, f
	return m
}

// P11.2: the maps of whole methods: of each instruction its locals, its stack, what is live, and its roots.
func TestOf(t *testing.T) {
	own := api.Method{Name: "m", Desc: "(I)LA;", Stack: 2, Locals: 3, Code: []byte{api.New, 0, 0, api.AStore, 2, api.ALoad, 0, api.GetField, 0, 1, api.Dup, api.IfNull, 0, 4, api.AReturn, api.Pop, api.ALoad, 2, api.AReturn},
		Frames: []api.Frame{stands(15, "LA; I LB;", "LA;")}}
	for _, x := range []struct {
		name        string
		m           api.Method
		want, roots string
	}{
		{"the least", method("()V", 0, 0, api.Return), "||", ""},
		{"locals that nobody reads", method("(LA;I[I)V", 0, 4, api.Nop, api.Return), "+-+-||---- +-+-||----", " "},
		{"an int that is live is no root", method("(I)I", 1, 1, api.ILoad, 0, api.IReturn), "-||+ -|-|-", " "},
		{"a reference that is live", method("(LA;)LA;", 1, 1, api.ALoad, 0, api.AReturn), "+||+ +|+|-", "0 1"},
		{"null is one", method("()V", 1, 1, api.Null, api.AStore, 0, api.ALoad, 0, api.Pop, api.Return), "-||- -|+|- +||+ +|+|- +||-", " 1 0 1 "},
		{"ints below references", method("()V", 4, 1, api.Const0, api.Null, api.Const1, api.NewInts, 10, api.Pop, api.Return), "-||- -|-|- -|-+|- -|-+-|- -|-++|- -|-+|-", "  2 2 2,3 2"},
		{"an object's own method", own, "+--||+-- +--|+|+-- +-+||+-+ +-+|+|--+ +-+|+|--+ +-+|++|--+ +-+|+|--- +-+|+|--+ +-+||--+ +-+|+|---", "0 0,3 0,2 2,3 2,3 2,3,4 3 2,3 2 3"},
		{"a frame tells less than what came", with(method("(LA;)V", 0, 1, api.Nop, api.Return), nil, stands(1, "?", "")), "+||- -||-", " "},
		{"a handler", with(method("(LA;LA;)LA;", 1, 2, api.Null, api.AStore, 1, api.ALoad, 0, api.AReturn, api.Pop, api.ALoad, 1, api.AReturn), []api.Handler{{From: 1, To: 3, At: 6, Type: "Index"}}, stands(6, "? LA;", "LObject;")),
			"++||++ ++|+|++ ++||+- ++|+|-- -+|+|-+ -+||-+ -+|+|--", "0,1 0,1,2 0 2 1,2 1 2"},
		{"what is never reached", with(method("(I)V", 1, 1, api.Return, api.ALoad, 0, api.Throw), nil, stands(1, "LIndex;", "")), "-||- +||+ +|+|-", " 0 1"},
	} {
		t.Run(x.name, func(t *testing.T) {
			k, c := world(t)
			c.Methods = []api.Method{x.m}
			l, why := mustMap(t, k, c, 0)
			if why != api.OK || toldMaps(l) != x.want || toldRoots(l) != x.roots {
				t.Errorf("%v, %s and %s, want %s and %s", why, toldMaps(l), toldRoots(l), x.want, x.roots)
			}
		})
	}
}

// toldRoots tells the roots of each map.
func toldRoots(l []maps.Map) string {
	var all []string
	for _, m := range l {
		var s []string
		for _, n := range maps.Roots(m) {
			s = append(s, strconv.Itoa(n))
		}
		all = append(all, strings.Join(s, ","))
	}
	return strings.Join(all, " ")
}

// P11.2: each map has the place of its instruction.
func TestPlaces(t *testing.T) {
	k, c := world(t)
	c.Methods = []api.Method{method("(I)V", 1, 1, api.Push1, 5, api.Push2, 1, 1, api.Return)}
	c.Methods[0].Stack = 2
	l, why := mustMap(t, k, c, 0)
	var at []int
	for _, m := range l {
		at = append(at, m.At)
	}
	if why != api.OK || !slices.Equal(at, []int{0, 2, 5}) {
		t.Errorf("%v, %v", at, why)
	}
}

// P11.2: which types are references, as locals and on the stack.
func TestWhichAreReferences(t *testing.T) {
	k, c := world(t)
	for s, want := range map[string]string{"I": "-", "?": "-", "0": "+", "[I": "+", "LObject;": "+", "LA;": "+", "LThrowable;": "+", "[LA;": "+", "[LObject;": "+"} {
		c.Methods = []api.Method{with(method("()V", 1, 1, api.Return, api.Return), nil, stands(1, s, s))}
		l, why := mustMap(t, k, c, 0)
		if why != api.OK || toldMaps(l) != "-||- "+want+"|"+want+"|-" {
			t.Errorf("%s: %s, %v", s, toldMaps(l), why)
		}
	}
	for name, want := range map[string]string{"A": "+", "None": "+", "": "-", "1": "-", "A;": "-"} {
		c.Name, c.Methods = name, []api.Method{{Name: "m", Desc: "()V", Locals: 1, Code: []byte{api.Return}}}
		l, why := mustMap(t, k, c, 0)
		if why != api.OK || toldMaps(l) != want+"||-" {
			t.Errorf("the own class %q: %s, %v", name, toldMaps(l), why)
		}
	}
}

// P11.2, R3: what verify.States refuses, and nothing beside it.
func TestRefused(t *testing.T) {
	k, c := world(t)
	plain := method("()V", 1, 0, api.Nop, api.Return, api.Pop, api.Return)
	over := func(class string) []api.Handler { return []api.Handler{{From: 0, To: 1, At: 2, Type: class}} }
	for name, x := range map[string]struct {
		m   api.Method
		why api.Errno
	}{
		"no code":                     {method("()V", 0, 0), api.ErrFall},
		"no operation":                {method("()V", 0, 0, 9), api.ErrOp},
		"cut off":                     {method("()V", 0, 0, api.ILoad), api.ErrEnd},
		"too long":                    {method("()V", 0, 0, make([]byte, 1025)...), api.ErrLong},
		"falls off":                   {method("()I", 1, 1, api.ILoad, 0), api.ErrFall},
		"a branch to nowhere":         {method("()V", 0, 0, api.Goto, 0, 1), api.ErrTarget},
		"a handler of no Throwable":   {with(plain, over("A"), stands(2, "", "I")), api.ErrNone},
		"a handler, no frame":         {with(plain, over("Index"), stands(3, "", "")), api.ErrFrame},
		"nothing is met":              {plain, api.ErrFrame},
		"no descriptor":               {method("()", 0, 0, api.Return), api.ErrDesc},
		"too few locals":              {method("(I)V", 0, 0, api.Return), api.ErrLocal},
		"too many locals":             {method("(I)V", 0, 17, api.Return), api.ErrLocal},
		"locals below 0":              {method("()V", 0, -1, api.Return), api.ErrLocal},
		"no such local":               {method("()V", 1, 1, api.ILoad, 1, api.Return), api.ErrLocal},
		"too deep":                    {method("()V", 0, 0, api.Null, api.Return), api.ErrDepth},
		"too few on the stack":        {method("()V", 1, 0, api.Pop, api.Return), api.ErrDepth},
		"a local of another type":     {method("(I)V", 1, 1, api.ALoad, 0, api.Return), api.ErrType},
		"a local of nothing":          {method("()V", 1, 1, api.ALoad, 0, api.Return), api.ErrType},
		"no such constant":            {method("()V", 1, 0, api.New, 0, 9, api.Return), api.ErrRef},
		"the result of another type":  {method("()I", 1, 0, api.Return), api.ErrType},
		"refused by its last one":     {method("()V", 1, 0, api.Null, api.Nop, api.Pop, api.Nop, api.IReturn), api.ErrType},
		"NewInts of no ints":          {method("()V", 1, 0, api.Const0, api.NewInts, 9, api.Pop, api.Return), api.ErrOp},
		"a frame of locals too many":  {with(plain, nil, stands(2, "I", "I")), api.ErrFrame},
		"a frame that is not known":   {with(plain, nil, stands(2, "", "LNone;")), api.ErrFrame},
		"a frame at no instruction":   {with(plain, nil, stands(9, "", "I")), api.ErrTarget},
		"not refused, with its frame": {with(plain, over("Index"), stands(2, "", "LIndex;")), api.OK},
	} {
		right := method("()V", 0, 0, api.Return)
		for n, methods := range [][]api.Method{{x.m}, {right, x.m, right}} {
			c.Methods = methods
			if l, why := mustMap(t, k, c, n); why != x.why || why != api.OK && len(l) > 0 {
				t.Errorf("%s: %v, %v, want %v", name, l, why, x.why)
			}
		}
	}
}

// P11.2, R1: no Kin, no such method.
func TestNoSuchMethod(t *testing.T) {
	k, c := world(t)
	c.Methods = []api.Method{method("()V", 0, 0, api.Return), {Name: "n", Desc: "()V", Native: true}}
	for _, n := range []int{math.MinInt, -1, 2, 3, 1 << 32, math.MaxInt} {
		if l, why := maps.Of(k, c, n); why != api.ErrArg || len(l) > 0 {
			t.Errorf("method %d: %v, %v", n, l, why)
		}
	}
	for n := -1; n < 3; n++ {
		if l, why := maps.Of(nil, c, n); why != api.ErrArg || len(l) > 0 {
			t.Errorf("method %d, no Kin: %v, %v", n, l, why)
		}
		if l, why := maps.Of(k, api.Class{}, n); why != api.ErrArg || len(l) > 0 {
			t.Errorf("method %d of no class: %v, %v", n, l, why)
		}
		if l, why := maps.Of(k, api.Class{Methods: c.Methods[:0]}, n); why != api.ErrArg || len(l) > 0 { // R5: what is behind a list's length is not there
			t.Errorf("method %d behind the methods: %v, %v", n, l, why)
		}
	}
}

// P11.2: a native method has none, whatever stands in it.
func TestNative(t *testing.T) {
	k, c := world(t)
	for _, m := range []api.Method{{}, method("(I)I", 1, 1, api.ILoad, 0, api.IReturn), method("", -1, 99, 9), method("()V", 0, 0, make([]byte, 2000)...), with(method("()V", 0, 0), []api.Handler{{To: 9}}, api.Frame{At: 4})} {
		m.Native = true
		c.Methods = []api.Method{m}
		if l, why := mustMap(t, k, c, 0); why != api.OK || len(l) > 0 {
			t.Errorf("%+v: %v, %v", m, l, why)
		}
	}
}

// P11.2: of several methods the one that is asked for.
func TestWhichMethod(t *testing.T) {
	k, c := world(t)
	c.Methods = []api.Method{method("()V", 0, 0, 9), method("(LA;)LA;", 1, 1, api.ALoad, 0, api.AReturn), {Native: true}, method("(I)V", 0, 2, api.Return), method("()V", 0, 0)}
	for n, want := range []string{"", "+||+ +|+|-", "", "--||--", ""} {
		if l, _ := mustMap(t, k, c, n); toldMaps(l) != want {
			t.Errorf("method %d: %s, want %s", n, toldMaps(l), want)
		}
	}
}

// bools are all lists of at most n bools.
func bools(n int) [][]bool {
	all := [][]bool{nil}
	for from := 0; n > 0; n-- {
		last := len(all)
		for _, l := range all[from:last] {
			all = append(all, append(slices.Clone(l), false), append(slices.Clone(l), true))
		}
		from = last
	}
	return all
}

// P11.2: the roots of all small maps; lists of unlike lengths too, where what is not told to be live is not.
func TestRoots(t *testing.T) {
	mustRoot(t, maps.Map{})
	mustRoot(t, maps.Map{At: 7, Locals: []bool{true, true, true}, Live: []bool{true, false, true}, Stack: []bool{false, true, true}}, 0, 2, 4, 5)
	mustRoot(t, maps.Map{Stack: []bool{true, false, true}}, 0, 2)
	mustRoot(t, maps.Map{Locals: []bool{false, false}, Stack: []bool{true}, Live: []bool{true, true}}, 2)
	mustRoot(t, maps.Map{Locals: []bool{true, true}, Live: []bool{true}}, 0)
	mustRoot(t, maps.Map{Locals: []bool{true, true}})
	mustRoot(t, maps.Map{Live: []bool{true, true}})
	mustRoot(t, maps.Map{Locals: []bool{true}, Live: []bool{true, true, true}, Stack: []bool{false}}, 0)
	lists := bools(4)
	for _, locals := range lists {
		for _, stack := range lists {
			for _, live := range lists {
				m := maps.Map{Locals: locals, Stack: stack, Live: live}
				mustRoot(t, m, saidRoots(m)...)
			}
		}
	}
	for _, none := range [][]bool{nil, {}} {
		mustRoot(t, maps.Map{Locals: none, Stack: none, Live: none})
		mustRoot(t, maps.Map{Locals: []bool{true}, Stack: []bool{true}, Live: none}, 1)
	}
}
