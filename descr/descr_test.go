package descr_test

import (
	"regexp"
	"slices"
	"strings"
	"testing"

	"carafe/api"
	"carafe/descr"
)

// The forms of P2.1, said anew.
var (
	name   = `[A-Za-z_$][A-Za-z0-9_$]{0,63}`
	field  = `\[?(?:I|L` + name + `;)`
	names  = regexp.MustCompile(`\A` + name + `\z`)
	fields = regexp.MustCompile(`\A` + field + `\z`)
	method = regexp.MustCompile(`\A\(((?:` + field + `){0,8})\)(V|` + field + `)\z`)
	first  = regexp.MustCompile(field)
)

var longest = strings.Repeat("n", 64)

// eachText tells every text of at most n bytes of letters.
func eachText(letters string, n int, tell func(string)) {
	tell("")
	grown := []string{""}
	for range n {
		var next []string
		for _, s := range grown {
			for i := range letters {
				tell(s + letters[i:i+1])
				next = append(next, s+letters[i:i+1])
			}
		}
		grown = next
	}
}

// mustField holds what the calls say of s against its form.
func mustField(t *testing.T, s string) {
	t.Helper()
	is := fields.MatchString(s)
	class, elem := "", ""
	if is && s[0] == 'L' {
		class = strings.TrimSuffix(s[1:], ";")
	}
	if is && s[0] == '[' {
		class, elem = "Object", s[1:]
	}
	if descr.Field(s) != is {
		t.Errorf("Field(%q): %v", s, !is)
	}
	if got := descr.Class(s); got != class {
		t.Errorf("Class(%q): %q, want %q", s, got, class)
	}
	if got, ok := descr.Elem(s); got != elem || ok != (elem != "") {
		t.Errorf("Elem(%q): %q, %v, want %q", s, got, ok, elem)
	}
}

// mustMethod holds what Method says of s against its form.
func mustMethod(t *testing.T, s string) {
	t.Helper()
	params, result, ok := descr.Method(s)
	m := method.FindStringSubmatch(s)
	if m == nil {
		if ok || len(params) > 0 || result != "" {
			t.Errorf("Method(%q): %q, %q, %v, want none", s, params, result, ok)
		}
		return
	}
	if !ok || result != m[2] || !slices.Equal(params, first.FindAllString(m[1], -1)) {
		t.Errorf("Method(%q): %q, %q, %v", s, params, result, ok)
	}
}

// P2.1: each byte, as the first of a name and behind it.
func TestBytesOfNames(t *testing.T) {
	for c := range 256 {
		b := string([]byte{byte(c)})
		for _, s := range []string{b, "a" + b, b + "a", longest[1:] + b} {
			if got := descr.Name(s); got != names.MatchString(s) {
				t.Errorf("Name(%q): %v", s, got)
			}
		}
	}
}

// P2.1: 1 to 64 bytes, and what is no name.
func TestNames(t *testing.T) {
	for n := range 70 {
		if got := descr.Name(strings.Repeat("n", n)); got != (n >= 1 && n <= 64) {
			t.Errorf("Name of %d bytes: %v", n, got)
		}
	}
	for _, s := range []string{"é", "aé", "a\x00", "\xff", "a.b", "LA;", "[I", "(", " a", "a ", "9", "java/lang"} {
		if descr.Name(s) {
			t.Errorf("Name(%q)", s)
		}
	}
	for _, s := range []string{"I", "V", "L", "Object", "a9", "_9", "$", "__", "Thread$1"} {
		if !descr.Name(s) {
			t.Errorf("Name(%q): false", s)
		}
	}
}

// P2.1, P2.2: the runs, the edges of a name inside, and all short texts.
func TestFields(t *testing.T) {
	for _, s := range []string{"I", "LA;", "[I", "[LA;", "LI;", "LL;", "[LV;", "L" + longest + ";", "[L" + longest + ";"} {
		if !descr.Field(s) {
			t.Errorf("Field(%q): false", s)
		}
		mustField(t, s)
	}
	for _, s := range []string{"[[I", "LA", "L1;", "", "[", "[[", "L", "L;", "[L;", "V", "[V", "i", "II", "I;", "LA;;", "LA;I", "LA;LB;", "A;", "[LA", "[[LA;",
		"L" + longest, "L" + longest + "n;", "[L" + longest + "n;", "Lé;", "LA\x00;", "(I)V", strings.Repeat("[", 1<<20), "L" + strings.Repeat("n", 1<<20) + ";"} {
		if descr.Field(s) {
			t.Errorf("Field(%.80q)", s)
		}
		mustField(t, s)
	}
	eachText("IL;[A1V", 6, func(s string) { mustField(t, s) })
}

// P2.2: the runs and the example.
func TestClassesAndElements(t *testing.T) {
	for s, want := range map[string]string{"LA;": "A", "[I": "Object", "[LA;": "Object", "I": "", "A": "", "[[I": "", "LA": "", "V": "", "": ""} {
		if got := descr.Class(s); got != want {
			t.Errorf("Class(%q): %q, want %q", s, got, want)
		}
	}
	for s, want := range map[string]string{"[LA;": "LA;", "[I": "I", "I": "", "LA;": "", "[[I": "", "[V": "", "[": "", "": ""} {
		if got, ok := descr.Elem(s); got != want || ok != (want != "") {
			t.Errorf("Elem(%q): %q, %v, want %q", s, got, ok, want)
		}
	}
}

// P2.2: Ref asks nothing of the class; of a name it is a field of that class.
func TestRefs(t *testing.T) {
	for class, want := range map[string]string{"A": "LA;", "Object": "LObject;", "": "L;", "1": "L1;", "a;b": "La;b;", longest: "L" + longest + ";"} {
		if got := descr.Ref(class); got != want {
			t.Errorf("Ref(%q): %q, want %q", class, got, want)
		}
	}
	eachText("AL1;[_", 4, func(s string) {
		ref, want := descr.Ref(s), ""
		if names.MatchString(s) {
			want = s
		}
		if descr.Field(ref) != (want != "") || descr.Class(ref) != want {
			t.Errorf("%q: Class %q, want %q", ref, descr.Class(ref), want)
		}
	})
}

// P2.1: the run, the examples, and the edges.
func TestMethods(t *testing.T) {
	wide := "L" + longest + ";"
	for s, want := range map[string][]string{
		"(I[LA;LB;)V":                        {"I", "[LA;", "LB;", "V"},
		"()I":                                {"I"},
		"()V":                                {"V"},
		"()[LA;":                             {"[LA;"},
		"(II)[I":                             {"I", "I", "[I"},
		"(LI;[IL_;)I":                        {"LI;", "[I", "L_;", "I"},
		"(LA;LA;)LA;":                        {"LA;", "LA;", "LA;"},
		"(IIIIIIII)V":                        {"I", "I", "I", "I", "I", "I", "I", "I", "V"},
		"(" + wide + "[" + wide + ")" + wide: {wide, "[" + wide, wide},
	} {
		params, result, ok := descr.Method(s)
		if !ok || !slices.Equal(append(params, result), want) {
			t.Errorf("Method(%q): %q, %q, %v, want %q", s, params, result, ok, want)
		}
	}
}

// P2.1: what is no method's, and all short texts.
func TestNoMethods(t *testing.T) {
	for _, s := range []string{"", "(", ")", "()", "V", "I", "(I)", ")V", "I)V", "(I", "(IV", "(V)V", "(I)VV", "(I)v", "()[V", "()[[I", "([)V", "([[I)V", "(L;)V", "(LA)V", "(L1;)V",
		"(I,I)V", "( )V", "() V", "((I)V", "(I))V", "x()V", "(I)II", "()LA;V", "(LA;", "(L" + longest + "n;)V", "()L" + longest + "n;", "(é)V",
		"(IIIIIIIII)V", "(IIIIIIIIV)V", "(IIIIIIII[)V", "(" + strings.Repeat("I", 1<<20) + ")V", strings.Repeat("(", 1<<20)} {
		if params, result, ok := descr.Method(s); ok || len(params) > 0 || result != "" {
			t.Errorf("Method(%.80q): %q, %q, %v, want none", s, params, result, ok)
		}
	}
	eachText("IL;[A()V", 6, func(s string) { mustMethod(t, s) })
	eachText("I[A;L", 6, func(s string) { mustMethod(t, "("+s+")V") })
}

// P2.1: a method's parameters are at most MaxParams, of whatever kind.
func TestMostParams(t *testing.T) {
	for _, f := range []string{"I", "[I", "LA;", "[LA;", "L" + longest + ";"} {
		for n := range 12 {
			params, result, ok := descr.Method("(" + strings.Repeat(f, n) + ")V")
			if n > api.MaxParams && (ok || len(params) > 0 || result != "") {
				t.Errorf("%d of %q: %q, %q, %v, want none", n, f, params, result, ok)
			}
			if n <= api.MaxParams && (!ok || !slices.Equal(params, slices.Repeat([]string{f}, n)) || result != "V") {
				t.Errorf("%d of %q: %q, %q, %v", n, f, params, result, ok)
			}
		}
	}
}

// P2.1: Join asks nothing of its parts, and leaves them as they are.
func TestJoin(t *testing.T) {
	for _, c := range []struct {
		params []string
		result string
		want   string
	}{
		{nil, "V", "()V"},
		{[]string{}, "I", "()I"},
		{nil, "", "()"},
		{[]string{"I", "[LA;", "LB;"}, "V", "(I[LA;LB;)V"},
		{[]string{"x", "", " ", ")"}, "(", "(x ))("},
		{slices.Repeat([]string{"I"}, 9), "V", "(IIIIIIIII)V"},
	} {
		if got := descr.Join(c.params, c.result); got != c.want {
			t.Errorf("Join(%q, %q): %q, want %q", c.params, c.result, got, c.want)
		}
	}
	room := []string{"I", "LA;", "spare"}
	if got := descr.Join(room[:2], "V"); got != "(ILA;)V" || !slices.Equal(room, []string{"I", "LA;", "spare"}) {
		t.Errorf("Join: %q, and leaves %q", got, room)
	}
}

// P2.3: what is joined is taken apart again.
func TestJoinedAndBack(t *testing.T) {
	kinds := []string{"I", "[I", "LA;", "[LA;", "LI;", "L" + longest + ";"}
	results := append([]string{"V"}, kinds...)
	state := uint32(1)
	pick := func(n int) int {
		state = state*1664525 + 1013904223
		return int(state>>8) % n
	}
	for range 20000 {
		var want []string
		for range pick(api.MaxParams + 1) {
			want = append(want, kinds[pick(len(kinds))])
		}
		result := results[pick(len(results))]
		params, back, ok := descr.Method(descr.Join(want, result))
		if !ok || back != result || !slices.Equal(params, want) {
			t.Fatalf("%q, %q: %q, %q, %v", want, result, params, back, ok)
		}
	}
}

// R2: an answer is new memory, its spare room too.
func TestAnswersAreNew(t *testing.T) {
	one, _, _ := descr.Method("(III)V")
	all := one[:cap(one)]
	for i := range all {
		all[i] = "x"
	}
	if two, _, ok := descr.Method("(III)V"); !ok || !slices.Equal(two, []string{"I", "I", "I"}) {
		t.Errorf("a second answer: %q, %v", two, ok)
	}
}

// P2.1, P2.3, W6: what Method takes apart, Join makes whole.
func FuzzApartAndBack(f *testing.F) {
	for _, s := range []string{"(I[LA;LB;)V", "()I", "(IIIIIIIII)V", "(L1;)V", "([[I)V"} {
		f.Add(s)
	}
	f.Fuzz(func(t *testing.T, s string) {
		mustMethod(t, s)
		mustField(t, s)
		params, result, ok := descr.Method(s)
		if ok && descr.Join(params, result) != s {
			t.Errorf("%q: back as %q", s, descr.Join(params, result))
		}
	})
}
