package types_test

import (
	"fmt"
	"math/rand"
	"regexp"
	"slices"
	"strings"
	"testing"

	"carafe/api"
	"carafe/kin"
	"carafe/types"
)

// What follows says the chapter anew, by lists of all that a type fits.

// said are classes, each with its super; Object has none.
type said map[string]string

func always() said {
	s := said{"Object": "", "Throwable": "Object", "Thread": "Object", "System": "Object"}
	for _, name := range strings.Fields("Arithmetic NullPointer Index NegativeSize Cast Store Monitor Memory Stack") {
		s[name] = "Throwable"
	}
	return s
}

var (
	slots = regexp.MustCompile(`\A(?:[I?0]|\[I|\[?L([A-Za-z_$][A-Za-z0-9_$]{0,63});)\z`)
	refs  = regexp.MustCompile(`\A(?:0|\[I|\[?L[A-Za-z_$][A-Za-z0-9_$]{0,63};)\z`)
)

func (s said) known(text string) bool {
	m := slots.FindStringSubmatch(text)
	if m == nil {
		return false
	}
	_, has := s[m[1]]
	return m[1] == "" || has
}

// all are the types that are known, in an order of their own.
func (s said) all() []string {
	l := []string{"I", "?", "0", "[I"}
	for name := range s {
		l = append(l, "L"+name+";", "[L"+name+";")
	}
	slices.Sort(l)
	return l
}

// above are the types that the known type text fits.
func (s said) above(text string) []string {
	switch {
	case text == "?":
		return []string{"?"}
	case text == "I":
		return []string{"I", "?"}
	case text == "[I":
		return []string{"[I", "LObject;", "?"}
	case text == "0":
		return slices.DeleteFunc(s.all(), func(x string) bool { return x == "I" })
	}
	var l []string
	before, name, _ := strings.Cut(strings.TrimSuffix(text, ";"), "L")
	for name != "" {
		l = append(l, before+"L"+name+";")
		name = s[name]
	}
	if before == "[" {
		l = append(l, "LObject;")
	}
	return append(l, "?")
}

func (s said) fits(from, to string) bool {
	return s.known(from) && s.known(to) && slices.Contains(s.above(from), to)
}

// join is the one type that both fit and that fits all others which both fit.
func (s said) join(t *testing.T, a, b string) string {
	t.Helper()
	if !s.known(a) || !s.known(b) {
		return "?"
	}
	above := s.above(b)
	both := slices.DeleteFunc(s.above(a), func(x string) bool { return !slices.Contains(above, x) })
	least := slices.DeleteFunc(slices.Clone(both), func(x string) bool {
		reached := s.above(x)
		return slices.ContainsFunc(both, func(y string) bool { return !slices.Contains(reached, y) })
	})
	if len(least) != 1 {
		t.Fatalf("%q and %q both fit %q, of which %q are the least", a, b, both, least)
	}
	return least[0]
}

// built is a Kin of the classes that s has beside those that are always there, in the order of names.
func (s said) built(t *testing.T, names ...string) *kin.Kin {
	t.Helper()
	k := kin.New()
	for _, name := range names {
		if why := k.Add(api.Class{Name: name, Super: s[name]}); why != api.OK {
			t.Fatalf("Add({%s, super %s}): %v", name, s[name], why)
		}
	}
	return k
}

// mustTell holds what is told of each two of the texts, with the classes of k, against s.
func mustTell(t *testing.T, k *kin.Kin, s said, texts []string) {
	t.Helper()
	for _, a := range texts {
		if got, want := types.Known(k, a), s.known(a); got != want {
			t.Fatalf("Known(%q): %v", a, got)
		}
		if got, want := types.IsRef(a), refs.MatchString(a); got != want {
			t.Fatalf("IsRef(%q): %v", a, got)
		}
		for _, b := range texts {
			if got, want := types.Fits(k, a, b), s.fits(a, b); got != want {
				t.Fatalf("Fits(%q, %q): %v", a, b, got)
			}
			if got, want := types.Join(k, a, b), s.join(t, a, b); got != want {
				t.Fatalf("Join(%q, %q): %q, want %q", a, b, got, want)
			}
		}
	}
}

// grown are as many classes as there may be, or fewer, each below one ahead of it by the numbers that draw answers, and their Kin.
func grown(t *testing.T, n int, draw func(n int) int) (*kin.Kin, said) {
	t.Helper()
	s, names := always(), []string{"Object", "Throwable", "Thread", "Index"}
	for n := range n {
		name := fmt.Sprint("X", n)
		s[name] = names[draw(len(names))]
		names = append(names, name)
	}
	return s.built(t, names[4:]...), s
}

// shapes are some choices of where a class goes: anywhere, below the last one, below one of the last few, below one of the first few.
func shapes(r *rand.Rand) []func(int) int {
	return []func(int) int{
		r.Intn,
		func(n int) int { return n - 1 },
		func(n int) int { return n - 1 - r.Intn(min(n, 3)) },
		func(n int) int { return r.Intn(min(n, 6)) },
	}
}

// P8.1 to P8.3: all types of many sets of classes, each two of them, beside some that are none.
func TestDrawn(t *testing.T) {
	r := rand.New(rand.NewSource(8))
	for _, draw := range shapes(r) {
		for range 4 {
			k, s := grown(t, 32-13, draw)
			mustTell(t, k, s, append(s.all(), "", "V", "LNone;", "[LNone;", "X0", "[[I", "[LX0", "[?", "[0"))
		}
	}
}

// P8.1 to P8.3, R1: any texts, with classes by any bytes.
func FuzzTypes(f *testing.F) {
	f.Add("", "", "")
	f.Add("\x00\x04\x05\x04", "LX1;", "LX3;")
	f.Add("\x03\x04\x04\x06", "[LX2;", "[LX3;")
	f.Add("\x00", "[I", "[LX0;")
	f.Add("\x01", "0", "LX9;")
	f.Fuzz(func(t *testing.T, tree, a, b string) {
		tree = tree[:min(len(tree), 32-13)]
		rest := tree
		k, s := grown(t, len(tree), func(n int) int {
			x := int(rest[0]) % n
			rest = rest[1:]
			return x
		})
		mustTell(t, k, s, []string{a, b, "L" + a + ";", "[" + a, "[L" + b + ";", "I", "?", "0", "[I", "LObject;", "[LX0;"})
	})
}
