package frames_test

import (
	"fmt"
	"math/rand"
	"regexp"
	"strings"
	"testing"

	"carafe/api"
	"carafe/frames"
	"carafe/kin"
	"carafe/types"
)

// What follows says the chapter anew, by texts: a list is its parts, each with a comma behind it.

var (
	method = regexp.MustCompile(`\A\(((?:\[?(?:I|L[A-Za-z_$][A-Za-z0-9_$]{0,63};)){0,8})\)(?:V|\[?(?:I|L[A-Za-z_$][A-Za-z0-9_$]{0,63};))\z`)
	part   = regexp.MustCompile(`\[?(?:I|L[^;]*;)`)
)

func text(l []string) string {
	var b strings.Builder
	for _, s := range l {
		b.WriteString(s + ",")
	}
	return b.String()
}

func told(at int, locals, stack string) string {
	return fmt.Sprintf("%d %s / %s", at, locals, stack)
}

func toldFrame(f api.Frame) string { return told(f.At, text(f.Locals), text(f.Stack)) }

// saidFirst is what First answers, as a text.
func saidFirst(class string, m api.Method) string {
	found := method.FindStringSubmatch(m.Desc)
	if found == nil {
		return fmt.Sprint("", api.ErrDesc)
	}
	l := part.ReplaceAllString(found[1], "$0,")
	if !m.Static {
		l = "L" + class + ";," + l
	}
	n := len(part.FindAllString(found[1], -1))
	if !m.Static {
		n++
	}
	if n > m.Locals || m.Locals > 16 {
		return fmt.Sprint("", api.ErrLocal)
	}
	return fmt.Sprint(l+strings.Repeat("?,", m.Locals-n), api.OK)
}

// saidEach tells whether is holds of each of the two lists, which must be of one length.
func saidEach(a, b []string, is func(a, b string) bool) bool {
	if len(a) != len(b) {
		return false
	}
	for n := range a {
		if !is(a[n], b[n]) {
			return false
		}
	}
	return true
}

// mustTell holds all calls of the two frames, a number and a type against what is said.
func mustTell(t *testing.T, k *kin.Kin, a, b api.Frame, n int, s string) {
	t.Helper()
	fits := func(a, b string) bool { return types.Fits(k, a, b) }
	if got := frames.Fits(k, a, b); got != (saidEach(a.Locals, b.Locals, fits) && saidEach(a.Stack, b.Stack, fits)) {
		t.Fatalf("Fits(%v, %v): %v", a, b, got)
	}
	known := func(a, _ string) bool { return types.Known(k, a) }
	if got := frames.Known(k, a); got != (saidEach(a.Locals, a.Locals, known) && saidEach(a.Stack, a.Stack, known)) {
		t.Fatalf("Known(%v): %v", a, got)
	}
	f, l, why := frames.Pop(a, n)
	want, popped, refused := told(0, "", ""), "", api.ErrDepth
	if size := len(a.Stack); 0 <= n && n <= size {
		want, popped, refused = told(a.At, text(a.Locals), text(a.Stack[:size-n])), text(a.Stack[size-n:]), api.OK
	}
	if toldFrame(f) != want || text(l) != popped || why != refused {
		t.Fatalf("Pop(%v, %d): %v, %q, %v", a, n, f, l, why)
	}
	f, why = frames.Push(a, n, b.Stack...)
	want, refused = told(0, "", ""), api.ErrDepth
	if len(a.Stack)+len(b.Stack) <= n {
		want, refused = told(a.At, text(a.Locals), text(a.Stack)+text(b.Stack)), api.OK
	}
	if toldFrame(f) != want || why != refused {
		t.Fatalf("Push(%v, %d, %q): %v, %v", a, n, b.Stack, f, why)
	}
	f, why = frames.Set(a, n, s)
	want, refused = told(0, "", ""), api.ErrLocal
	if 0 <= n && n < len(a.Locals) {
		want, refused = told(a.At, text(a.Locals[:n])+s+","+text(a.Locals[n+1:]), text(a.Stack)), api.OK
	}
	if toldFrame(f) != want || why != refused {
		t.Fatalf("Set(%v, %d, %q): %v, %v", a, n, s, f, why)
	}
}

var some = []string{"I", "?", "0", "[I", "LObject;", "LA;", "LB;", "[LA;", "[LB;", "LIndex;", "LThrowable;", "LNone;", "[LNone;", "V", ""}

// mostly are some types, often those that others fit.
func mostly(r *rand.Rand, size int) []string {
	l := make([]string, size)
	for n := range l {
		l[n] = some[r.Intn(len(some)-4+r.Intn(5))]
	}
	return l
}

// wider is l with some types in the place of which others fit.
func wider(r *rand.Rand, k *kin.Kin, l []string) []string {
	wide := make([]string, len(l))
	for n, s := range l {
		wide[n] = s
		if r.Intn(2) == 0 {
			wide[n] = types.Join(k, s, some[r.Intn(len(some))])
		}
	}
	return wide
}

// P9.2: many frames of some types, beside those that they fit.
func TestDrawn(t *testing.T) {
	r, k, fit := rand.New(rand.NewSource(9)), withClasses(t), 0
	for range 20000 {
		a := api.Frame{At: r.Intn(99), Locals: mostly(r, r.Intn(5)), Stack: mostly(r, r.Intn(5))}
		b := api.Frame{At: r.Intn(99), Locals: wider(r, k, a.Locals), Stack: wider(r, k, a.Stack)}
		if r.Intn(4) == 0 {
			b.Stack = mostly(r, r.Intn(5))
		}
		n := r.Intn(12) - 2
		mustTell(t, k, a, b, n, some[r.Intn(len(some))])
		mustTell(t, k, b, a, n, "")
		mustTell(t, nil, a, b, n, "I")
		if frames.Fits(k, a, b) {
			fit++
		}
	}
	if fit < 2000 || fit > 18000 {
		t.Errorf("%d of 20000 fit", fit)
	}
}

// P9.1: many descriptors with each number of locals near the edges.
func TestDrawnFirst(t *testing.T) {
	r := rand.New(rand.NewSource(91))
	params := []string{"I", "[I", "LA;", "[LB;", "LI;", "V", "[["}
	for range 3000 {
		desc, kinds := "(", 5
		if r.Intn(8) == 0 {
			kinds = len(params) // those that are none too
		}
		for range r.Intn(11) {
			desc += params[r.Intn(kinds)]
		}
		desc += ")" + params[r.Intn(6)]
		for locals := -1; locals < 19; locals++ {
			m := api.Method{Desc: desc, Static: r.Intn(2) == 0, Locals: locals}
			mustBegin(t, "A", m)
		}
	}
}

func mustBegin(t *testing.T, class string, m api.Method) {
	t.Helper()
	l, why := frames.First(class, m)
	if got, want := fmt.Sprint(text(l), why), saidFirst(class, m); got != want {
		t.Fatalf("First(%q, %+v): %s, want %s", class, m, got, want)
	}
}

// P9.1, P9.2, R1: any texts and numbers; the types are parted by commas.
func FuzzFrames(f *testing.F) {
	f.Add("A", "(I)V", "LA;,I", "I,0", "LObject;,?", "I,[I", 3, false)
	f.Add("", "()V", "", "", "", "", 0, true)
	f.Add("B", "(I[LA;[ILB;)[I", "LB;", "I,I,I", "LA;", "I,?,I", 1, true)
	f.Add("A", "(IIIIIIII)V", "I", "", "I", "LIndex;", 16, false)
	f.Fuzz(func(t *testing.T, class, desc, locals, stack, locals2, stack2 string, n int, static bool) {
		parts := func(s string) []string { return strings.FieldsFunc(s, func(r rune) bool { return r == ',' }) }
		a := api.Frame{At: n, Locals: parts(locals), Stack: parts(stack)}
		b := api.Frame{At: -n, Locals: parts(locals2), Stack: parts(stack2)}
		k := withClasses(t)
		mustTell(t, k, a, b, n, class)
		mustTell(t, k, b, a, n, class)
		mustBegin(t, class, api.Method{Desc: desc, Static: static, Locals: n})
	})
}
