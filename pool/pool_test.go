package pool_test

import (
	"math"
	"regexp"
	"slices"
	"strings"
	"testing"

	"carafe/api"
	"carafe/pool"
)

// The forms that P3.1 asks for, said anew.
var (
	name   = `[A-Za-z_$][A-Za-z0-9_$]{0,63}`
	field  = `\[?(?:I|L` + name + `;)`
	names  = regexp.MustCompile(`\A` + name + `\z`)
	fields = regexp.MustCompile(`\A` + field + `\z`)
	method = regexp.MustCompile(`\A\((?:` + field + `){0,8}\)(?:V|` + field + `)\z`)
)

// isRight says P3.1 anew.
func isRight(c api.Const) bool {
	bare := c.Name == "" && c.Desc == ""
	member := names.MatchString(c.Class) && names.MatchString(c.Name)
	switch {
	case c.Kind == 3:
		return bare && c.Class == ""
	case c.N != 0:
		return false
	case c.Kind == 7:
		return bare && (names.MatchString(c.Class) || strings.HasPrefix(c.Class, "[") && fields.MatchString(c.Class))
	case c.Kind == 9:
		return member && fields.MatchString(c.Desc)
	case c.Kind == 10:
		return member && method.MatchString(c.Desc) && len(c.Desc) <= 256
	}
	return false
}

var (
	longest = strings.Repeat("n", 64)
	wide    = "L" + longest + ";"
)

// sized is a method's descriptor of that many bytes, from 202 to 268.
func sized(n int) string {
	last := strings.Repeat("m", n-len("("+wide+wide+wide)-len("L;)V"))
	return "(" + wide + wide + wide + "L" + last + ";)V"
}

// entries are right ones, no two alike.
func entries() []api.Const {
	return []api.Const{
		{Kind: api.ConstInt},
		{Kind: api.ConstInt, N: 5},
		{Kind: api.ConstInt, N: -5},
		{Kind: api.ConstInt, N: math.MaxInt32},
		{Kind: api.ConstInt, N: math.MinInt32},
		{Kind: api.ConstClass, Class: "A"},
		{Kind: api.ConstClass, Class: "I"},
		{Kind: api.ConstClass, Class: "[I"},
		{Kind: api.ConstClass, Class: "[LA;"},
		{Kind: api.ConstClass, Class: longest},
		{Kind: api.ConstClass, Class: "[" + wide},
		{Kind: api.ConstField, Class: "A", Name: "b", Desc: "I"},
		{Kind: api.ConstField, Class: "$", Name: "_1", Desc: "[LA;"},
		{Kind: api.ConstField, Class: longest, Name: longest, Desc: "[" + wide},
		{Kind: api.ConstMethod, Class: "A", Name: "b", Desc: "()V"},
		{Kind: api.ConstMethod, Class: "A", Name: "b", Desc: "(I[LA;LB;)[I"},
		{Kind: api.ConstMethod, Class: longest, Name: longest, Desc: sized(256)},
	}
}

// wrong are entries that are none.
func wrong() []api.Const {
	return []api.Const{
		{},
		{Kind: 1}, {Kind: 4}, {Kind: 8}, {Kind: 11}, {Kind: -3}, {Kind: 256 + 3}, {Kind: 1<<32 + 3}, {Kind: math.MinInt}, {Kind: math.MaxInt},
		{Kind: 8, Class: "A"}, {Kind: 11, Class: "A", Name: "b", Desc: "()V"}, {Kind: 12, Class: "A", Name: "b", Desc: "I"},
		{Kind: 3, Class: "A"}, {Kind: 3, Name: "A"}, {Kind: 3, Desc: "I"}, {Kind: 3, N: 5, Class: "A"},
		{Kind: 7}, {Kind: 7, N: 1}, {Kind: 7, Class: "A", N: 1}, {Kind: 7, Class: "A", N: -1},
		{Kind: 7, Class: "1"}, {Kind: 7, Class: "LA;"}, {Kind: 7, Class: "["}, {Kind: 7, Class: "[A"}, {Kind: 7, Class: "[[I"}, {Kind: 7, Class: "[V"},
		{Kind: 7, Class: "()V"}, {Kind: 7, Class: "a/b"}, {Kind: 7, Class: longest + "n"}, {Kind: 7, Class: "\xff"}, {Kind: 7, Class: "A\x00"},
		{Kind: 7, Class: "A", Name: "b"}, {Kind: 7, Class: "A", Desc: "I"}, {Kind: 7, Class: "[I", Desc: "I"},
		{Kind: 9}, {Kind: 9, Class: "A", Name: "b"}, {Kind: 9, Class: "A", Desc: "I"}, {Kind: 9, Name: "b", Desc: "I"},
		{Kind: 9, Class: "A", Name: "b", Desc: "I", N: 1}, {Kind: 9, Class: "[I", Name: "b", Desc: "I"}, {Kind: 9, Class: "A", Name: "[I", Desc: "I"},
		{Kind: 9, Class: "A", Name: "b", Desc: "V"}, {Kind: 9, Class: "A", Name: "b", Desc: "()V"}, {Kind: 9, Class: "A", Name: "b", Desc: "A"},
		{Kind: 9, Class: longest + "n", Name: "b", Desc: "I"}, {Kind: 9, Class: "A", Name: longest + "n", Desc: "I"},
		{Kind: 10}, {Kind: 10, Class: "A", Name: "b"}, {Kind: 10, Class: "A", Desc: "()V"}, {Kind: 10, Name: "b", Desc: "()V"},
		{Kind: 10, Class: "A", Name: "b", Desc: "()V", N: 1}, {Kind: 10, Class: "[I", Name: "b", Desc: "()V"}, {Kind: 10, Class: "A", Name: "<init>", Desc: "()V"},
		{Kind: 10, Class: "A", Name: "b", Desc: "I"}, {Kind: 10, Class: "A", Name: "b", Desc: "()"}, {Kind: 10, Class: "A", Name: "b", Desc: "(V)V"},
		{Kind: 10, Class: "A", Name: "b", Desc: "(IIIIIIIII)V"}, {Kind: 10, Class: "A", Name: "b", Desc: sized(257)},
	}
}

// numbers are that many right entries, no two alike.
func numbers(n int) []api.Const {
	l := make([]api.Const, n)
	for i := range l {
		l[i] = api.Const{Kind: api.ConstInt, N: int32(i)}
	}
	return l
}

// P3.1: the example, the edges, and what is wrong in one thing each.
func TestRight(t *testing.T) {
	for _, c := range entries() {
		if !pool.Right(c) {
			t.Errorf("Right(%+v): false", c)
		}
	}
	for _, c := range wrong() {
		if pool.Right(c) {
			t.Errorf("Right(%+v): true", c)
		}
	}
}

// P3.1: each kind beside each choice of the other parts.
func TestRightByForms(t *testing.T) {
	texts := []string{"", "A", "I", "V", "1", "[I", "[A", "LA;", "[LA;", "[[I", "()V", "(I)LA;", "()", "é", longest, longest + "n", wide, sized(256), sized(257)}
	for kind := range 12 {
		for _, class := range texts {
			for _, name := range texts {
				for _, desc := range texts {
					for _, n := range []int32{0, 1, -1} {
						c := api.Const{Kind: kind, N: n, Class: class, Name: name, Desc: desc}
						if got := pool.Right(c); got != isRight(c) {
							t.Fatalf("Right(%+v): %v", c, got)
						}
					}
				}
			}
		}
	}
}

// P3.1: a method's descriptor has MaxText bytes at most, which its parameters alone would not bind it to.
func TestLongestMethod(t *testing.T) {
	for n := 250; n <= 262; n++ {
		c := api.Const{Kind: api.ConstMethod, Class: "A", Name: "b", Desc: sized(n)}
		if len(c.Desc) != n || pool.Right(c) != (n <= api.MaxText) {
			t.Errorf("%d bytes: %v", len(c.Desc), pool.Right(c))
		}
	}
	eight := "(" + strings.Repeat(wide, 8) + ")" + wide
	if pool.Right(api.Const{Kind: api.ConstMethod, Class: "A", Name: "b", Desc: eight}) {
		t.Errorf("%d bytes are right", len(eight))
	}
}

// P3.3: each entry by its kind and by others, and numbers of none.
func TestGet(t *testing.T) {
	l := entries()
	for n, c := range l {
		for kind := -1; kind < 300; kind++ {
			got, why := pool.Get(l, n, kind)
			if kind == c.Kind && (got != c || why != api.OK) {
				t.Errorf("Get(%d, %d): %+v, %v", n, kind, got, why)
			}
			if kind != c.Kind && (got != api.Const{} || why != api.ErrRef) {
				t.Errorf("Get(%d, %d): %+v, %v, want ErrRef", n, kind, got, why)
			}
		}
	}
	for _, n := range []int{-1, math.MinInt, len(l), len(l) + 1, math.MaxInt} {
		if c, why := pool.Get(l, n, api.ConstInt); c != (api.Const{}) || why != api.ErrRef {
			t.Errorf("Get(%d): %+v, %v, want ErrRef", n, c, why)
		}
	}
}

// P3.3, R4, R5: of no entry at all, and of one that lies behind the end.
func TestGetOfNothing(t *testing.T) {
	for _, l := range [][]api.Const{nil, {}, entries()[:0]} {
		for _, n := range []int{-1, 0, 1} {
			for _, kind := range []int{0, api.ConstInt} {
				if c, why := pool.Get(l, n, kind); c != (api.Const{}) || why != api.ErrRef {
					t.Errorf("Get(%d, %d): %+v, %v, want ErrRef", n, kind, c, why)
				}
			}
		}
	}
	if c, why := pool.Get(entries()[:1], 1, api.ConstInt); c != (api.Const{}) || why != api.ErrRef {
		t.Errorf("behind the end: %+v, %v", c, why)
	}
}

// P3.3: Get asks for the kind alone: neither whether an entry is right, nor how many there are.
func TestGetAsksForTheKindAlone(t *testing.T) {
	odd := api.Const{Kind: 77, N: 1, Class: "?"}
	if c, why := pool.Get([]api.Const{{}, odd}, 1, 77); c != odd || why != api.OK {
		t.Errorf("%+v, %v", c, why)
	}
	if c, why := pool.Get([]api.Const{{}}, 0, 0); c != (api.Const{}) || why != api.OK {
		t.Errorf("%+v, %v", c, why)
	}
	if c, why := pool.Get(numbers(300), 299, api.ConstInt); c.N != 299 || why != api.OK {
		t.Errorf("%+v, %v", c, why)
	}
}

// P3.3: entries one by one, and each of them again.
func TestAdd(t *testing.T) {
	var l []api.Const
	for i, c := range entries() {
		grown, n, why := pool.Add(l, c)
		if n != i || why != api.OK || !slices.Equal(grown, entries()[:i+1]) {
			t.Fatalf("Add(%+v): %+v, %d, %v", c, grown, n, why)
		}
		l = grown
	}
	for i, c := range entries() {
		if same, n, why := pool.Add(l, c); n != i || why != api.OK || !slices.Equal(same, l) {
			t.Errorf("Add(%+v) again: %d, %v", c, n, why)
		}
	}
}

// P3.3: an entry is another one if one part of it is.
func TestAddTellsPartsApart(t *testing.T) {
	one := api.Const{Kind: api.ConstField, Class: "A", Name: "b", Desc: "I"}
	for _, c := range []api.Const{
		{Kind: api.ConstMethod, Class: "A", Name: "b", Desc: "()I"},
		{Kind: api.ConstField, Class: "B", Name: "b", Desc: "I"},
		{Kind: api.ConstField, Class: "A", Name: "B", Desc: "I"},
		{Kind: api.ConstField, Class: "A", Name: "b", Desc: "[I"},
		{Kind: api.ConstClass, Class: "A"},
		{Kind: api.ConstInt},
	} {
		if l, n, why := pool.Add([]api.Const{one}, c); n != 1 || why != api.OK || !slices.Equal(l, []api.Const{one, c}) {
			t.Errorf("Add(%+v): %+v, %d, %v", c, l, n, why)
		}
	}
}

// P3.3, R10: of several that are the same the first; others in the list need not be right.
func TestAddFindsTheFirst(t *testing.T) {
	c := api.Const{Kind: api.ConstInt, N: 1}
	l := []api.Const{{}, {Kind: 77}, c, {Kind: api.ConstInt, N: 2}, c}
	if same, n, why := pool.Add(l, c); n != 2 || why != api.OK || !slices.Equal(same, l) {
		t.Errorf("%+v, %d, %v", same, n, why)
	}
	other := api.Const{Kind: api.ConstInt, N: 3}
	if grown, n, why := pool.Add(l, other); n != 5 || why != api.OK || !slices.Equal(grown, append(l[:5:5], other)) {
		t.Errorf("%+v, %d, %v", grown, n, why)
	}
}

func mustNotAdd(t *testing.T, l []api.Const, c api.Const, want api.Errno) {
	t.Helper()
	if got, n, why := pool.Add(l, c); len(got) > 0 || n != 0 || why != want {
		t.Errorf("Add(%+v) to %d: %d entries, %d, %v, want %v", c, len(l), len(got), n, why, want)
	}
}

// P3.3: what is not right is refused, whatever there is already.
func TestAddRefusesWhatIsNotRight(t *testing.T) {
	for _, c := range wrong() {
		mustNotAdd(t, nil, c, api.ErrRef)
		mustNotAdd(t, entries(), c, api.ErrRef)
		mustNotAdd(t, []api.Const{c}, c, api.ErrRef)
		mustNotAdd(t, numbers(api.MaxPool), c, api.ErrRef)
	}
}

// P3.3: the limit, which stands behind the look for one that is there.
func TestAddAtTheLimit(t *testing.T) {
	next := api.Const{Kind: api.ConstInt, N: -1}
	l, n, why := pool.Add(numbers(api.MaxPool-1), next)
	if n != api.MaxPool-1 || why != api.OK || len(l) != api.MaxPool || l[n] != next {
		t.Errorf("the last one: %d entries, %d, %v", len(l), n, why)
	}
	for _, many := range []int{api.MaxPool, api.MaxPool + 1, 1000} {
		mustNotAdd(t, numbers(many), next, api.ErrMany)
		last := api.Const{Kind: api.ConstInt, N: int32(many - 1)}
		if l, n, why := pool.Add(numbers(many), last); n != many-1 || why != api.OK || !slices.Equal(l, numbers(many)) {
			t.Errorf("one of %d again: %d entries, %d, %v", many, len(l), n, why)
		}
	}
}

// R2: what Add is given stays as it is, its spare room too, and the answer shares nothing with it.
func TestAddAnswersNewMemory(t *testing.T) {
	for _, size := range []int{0, 1, 3, 5} {
		whole := entries()
		for _, c := range []api.Const{{Kind: api.ConstInt, N: 99}, whole[0]} {
			first, _, _ := pool.Add(whole[:size], c)
			second, _, _ := pool.Add(whole[:size], c)
			kept := slices.Clone(second)
			all := first[:cap(first)]
			for i := range all {
				all[i] = api.Const{Kind: 77}
			}
			if !slices.Equal(whole, entries()) || !slices.Equal(second, kept) {
				t.Errorf("Add to %d shares memory", size)
			}
		}
	}
}
