package loader_test

import (
	"fmt"
	"strings"
	"testing"

	"carafe/api"
	"carafe/loader"
)

// family has a child of each of these, in turn.
func family(t *testing.T, parents ...int) *loader.Loaders {
	t.Helper()
	l := loader.New()
	for i, parent := range parents {
		if n, why := l.Child(parent); n != i+1 || why != api.OK {
			t.Fatalf("Child(%d): %d, %v; %d is next", parent, n, why, i+1)
		}
	}
	return l
}

// offers are "1 A B 5": loader, name, super (- for none), id.
func offer(t *testing.T, l *loader.Loaders, offers ...string) {
	t.Helper()
	for _, o := range offers {
		var n, id int
		var name, super string
		if _, err := fmt.Sscan(o, &n, &name, &super, &id); err != nil {
			t.Fatal(o, err)
		}
		if why := l.Offer(n, name, strings.TrimPrefix(super, "-"), id); why != api.OK {
			t.Fatalf("Offer %s: %v", o, why)
		}
	}
}

func load(t *testing.T, l *loader.Loaders, n int, name string, id, by int, why api.Errno) {
	t.Helper()
	if i, b, w := l.Load(n, name); i != id || b != by || w != why {
		t.Errorf("Load(%d, %s): %d, %d, %v; must be %d, %d, %v", n, name, i, b, w, id, by, why)
	}
}

// loaded holds what each loader has loaded of a name against ids, - for nothing.
func loaded(t *testing.T, l *loader.Loaders, name, ids string) {
	t.Helper()
	for n, want := range strings.Fields(ids) {
		id, ok := l.Loaded(n, name)
		got := fmt.Sprint(id)
		if !ok {
			got = "-"
			if id != 0 {
				t.Errorf("Loaded(%d, %s): %d beside false", n, name, id)
			}
		}
		if got != want {
			t.Errorf("Loaded(%d, %s): %s; must be %s", n, name, got, want)
		}
	}
}

func agree(t *testing.T, l *loader.Loaders, a, b int, name string, why api.Errno) {
	t.Helper()
	if got := l.Agree(a, b, name); got != why {
		t.Errorf("Agree(%d, %d, %s): %v; must be %v", a, b, name, got, why)
	}
}

// P15.1, P15.2, P15.3: the runs and the examples.
func TestRuns(t *testing.T) {
	l := family(t)
	offer(t, l, "0 A B 1", "0 B A 2")
	load(t, l, 0, "A", 0, 0, api.ErrCircle)

	l = family(t, 0)
	offer(t, l, "1 A - 5")
	load(t, l, 1, "A", 5, 1, api.OK)
	load(t, l, 0, "A", 0, 0, api.ErrNone)

	l = family(t, 0)
	agree(t, l, 0, 1, "A", api.OK)
	offer(t, l, "0 A - 4")
	load(t, l, 1, "A", 4, 0, api.OK)
	load(t, l, 0, "A", 4, 0, api.OK)

	agree(t, l, 0, 0, "A", api.OK)
	load(t, l, 1, "A", 4, 0, api.OK)
	load(t, l, 1, "B", 0, 0, api.ErrNone)
	offer(t, l, "1 B - 9")
	load(t, l, 1, "B", 9, 1, api.OK)
}

// P15.1: numbers rise from 1 on; one more than MaxLoaders is refused, but ahead of that who has no parent.
func TestChild(t *testing.T) {
	l := loader.New()
	refused := func(parent int, why api.Errno) {
		t.Helper()
		if n, w := l.Child(parent); n != 0 || w != why {
			t.Errorf("Child(%d): %d, %v; must be 0, %v", parent, n, w, why)
		}
	}
	for n := 1; n < api.MaxLoaders; n++ {
		refused(-1, api.ErrArg)
		refused(n, api.ErrArg)
		if got, why := l.Child(n / 2); got != n || why != api.OK {
			t.Fatalf("Child(%d): %d, %v; must be %d", n/2, got, why, n)
		}
	}
	for n := range api.MaxLoaders {
		refused(n, api.ErrMany)
	}
	refused(-1, api.ErrArg)
	refused(api.MaxLoaders, api.ErrArg)
	offer(t, l, "15 A - 3")
	load(t, l, 15, "A", 3, 15, api.OK)
	agree(t, l, 15, 16, "A", api.ErrArg)
	agree(t, l, 15, 14, "A", api.OK)
}

// P15.1: what an offer may not be, in the order of refusals; what is refused is not offered, and what is taken stays.
func TestOffer(t *testing.T) {
	l := family(t, 0)
	long := strings.Repeat("n", 64)
	for _, o := range []struct {
		n           int
		name, super string
		id          int
		why         api.Errno
	}{
		{-1, "A", "", 1, api.ErrArg},
		{2, "A", "", 1, api.ErrArg},
		{0, "", "", 1, api.ErrArg},
		{0, "1", "", 1, api.ErrArg},
		{0, "A;", "", 1, api.ErrArg},
		{0, "LA;", "", 1, api.ErrArg},
		{0, long + "n", "", 1, api.ErrArg},
		{0, "A", "[I", 1, api.ErrArg},
		{0, "A", " ", 1, api.ErrArg},
		{0, "A", long + "n", 1, api.ErrArg},
		{0, "A", "", -1, api.ErrArg},
		{0, "A", "B", -1 << 62, api.ErrArg},
		{0, "A", "", 0, api.OK},
		{0, "A", "", 0, api.ErrTaken},
		{0, "A", "C", 7, api.ErrTaken},
		{0, "A", "?", 7, api.ErrArg},
		{0, "A", "", -7, api.ErrArg},
		{2, "A", "", 7, api.ErrArg},
		{1, "A", "A", 1 << 62, api.OK},
		{1, "A", "A", 1 << 62, api.ErrTaken},
		{0, long, long, 3, api.OK},
		{1, long, "", 4, api.OK},
		{1, "a", "_$9", 5, api.OK},
	} {
		if why := l.Offer(o.n, o.name, o.super, o.id); why != o.why {
			t.Errorf("Offer%v: %v", o, why)
		}
	}
	load(t, l, 0, "A", 0, 0, api.OK)
	load(t, l, 1, "A", 0, 0, api.OK)
	load(t, l, 1, long, 0, 0, api.ErrCircle)
	load(t, l, 1, "a", 0, 0, api.ErrNone)
	load(t, l, 0, "1", 0, 0, api.ErrNone)
	load(t, l, 0, "LA;", 0, 0, api.ErrNone)
}

// P15.1, P15.2: an offer of what is loaded already, from above, is taken but not asked for.
func TestOfferBehind(t *testing.T) {
	l := family(t, 0)
	offer(t, l, "0 A - 1")
	load(t, l, 1, "A", 1, 0, api.OK)
	offer(t, l, "1 A - 2")
	load(t, l, 1, "A", 1, 0, api.OK)
	if why := l.Offer(1, "A", "", 3); why != api.ErrTaken {
		t.Errorf("Offer of what it offers: %v", why)
	}
}

// P15.2: no loader, ahead of all else; what nobody offers.
func TestNone(t *testing.T) {
	l := family(t, 0, 0)
	offer(t, l, "2 A - 1", "2 B A 2", "1 C B 3")
	for _, n := range []int{-1, 3, 16, -1 << 62, 1 << 62} {
		load(t, l, n, "A", 0, 0, api.ErrArg)
		load(t, l, n, "", 0, 0, api.ErrArg)
		if id, ok := l.Loaded(n, "A"); id != 0 || ok {
			t.Errorf("Loaded(%d, A): %d, %v", n, id, ok)
		}
		agree(t, l, n, 0, "A", api.ErrArg)
		agree(t, l, 0, n, "A", api.ErrArg)
		agree(t, l, n, n, "A", api.ErrArg)
	}
	load(t, l, 0, "A", 0, 0, api.ErrNone)
	load(t, l, 1, "A", 0, 0, api.ErrNone)
	load(t, l, 2, "", 0, 0, api.ErrNone)
	load(t, l, 2, "a", 0, 0, api.ErrNone)
	load(t, l, 1, "C", 0, 0, api.ErrNone) // its super is offered beside the line
	for _, name := range []string{"A", "B", "C", ""} {
		loaded(t, l, name, "- - -")
	}
	load(t, l, 2, "B", 2, 2, api.OK)
	loaded(t, l, "A", "- - 1")
	loaded(t, l, "B", "- - 2")
}

// P15.2: the first of the line defines, whoever else offers; from it on all load, and the id and the loader are told each of them.
func TestLine(t *testing.T) {
	for first := range 5 {
		l := family(t, 0, 1, 2, 3, 0, 2) // 5 and 6 stand beside
		offer(t, l, "5 A - 90", "6 A - 91")
		for n := first; n < 5; n++ {
			offer(t, l, fmt.Sprintf("%d A - %d", n, 10+n))
		}
		load(t, l, 3, "B", 0, 0, api.ErrNone)
		if first == 4 {
			load(t, l, 3, "A", 0, 0, api.ErrNone)
		}
		load(t, l, 4, "A", 10+first, first, api.OK)
		want := []string{"-", "-", "-", "-", "-", "-", "-"}
		for n := first; n < 5; n++ {
			want[n] = fmt.Sprint(10 + first)
			load(t, l, n, "A", 10+first, first, api.OK)
		}
		loaded(t, l, "A", strings.Join(want, " "))
		by, id := 6, 91
		if first < 3 {
			by, id = first, 10+first
		}
		load(t, l, 6, "A", id, by, api.OK)
	}
}

// P15.2: who has loaded a name hands it on, ahead of who offers it below.
func TestHandedOn(t *testing.T) {
	l := family(t, 0, 1, 2)
	offer(t, l, "1 A - 5")
	load(t, l, 1, "A", 5, 1, api.OK)
	offer(t, l, "2 A - 6", "3 A - 7")
	load(t, l, 3, "A", 5, 1, api.OK)
	loaded(t, l, "A", "- 5 5 5")
}

// P15.2, P15.3: what was loaded below stays as it was when one above offers the name later; who would get it through such a one is refused, unless it is the same id.
func TestOfferAbove(t *testing.T) {
	l := family(t, 0, 1)
	offer(t, l, "1 A - 5")
	load(t, l, 1, "A", 5, 1, api.OK)
	offer(t, l, "0 A - 6")
	load(t, l, 1, "A", 5, 1, api.OK)
	load(t, l, 2, "A", 0, 0, api.ErrBound)
	loaded(t, l, "A", "6 5 -")
	load(t, l, 0, "A", 6, 0, api.OK)
	load(t, l, 2, "A", 0, 0, api.ErrBound)

	l = family(t, 0, 1)
	offer(t, l, "1 A - 5")
	load(t, l, 1, "A", 5, 1, api.OK)
	offer(t, l, "0 A - 5")
	load(t, l, 2, "A", 5, 0, api.OK)
	load(t, l, 1, "A", 5, 1, api.OK)
	load(t, l, 0, "A", 5, 0, api.OK)
}

// P15.2: who defines loads the super ahead of it, by its own line; those below it get the name alone.
func TestSuper(t *testing.T) {
	l := family(t, 0, 1)
	offer(t, l, "2 S - 1", "1 A S 2", "1 S T 3", "0 T - 4", "2 T - 5", "1 T - 6")
	load(t, l, 2, "A", 2, 1, api.OK)
	loaded(t, l, "A", "- 2 2")
	loaded(t, l, "S", "- 3 -")
	loaded(t, l, "T", "4 4 -")

	l = family(t, 0)
	offer(t, l, "0 A S 2", "1 S - 1")
	load(t, l, 1, "A", 0, 0, api.ErrNone) // whom its super is beneath doesn't see it
	load(t, l, 1, "S", 1, 1, api.OK)
	load(t, l, 1, "A", 0, 0, api.ErrNone)
	offer(t, l, "0 S - 3")
	load(t, l, 1, "A", 2, 0, api.OK)
	loaded(t, l, "S", "3 1")

	l = family(t, 0)
	offer(t, l, "1 S Q 1", "0 A - 2", "1 B A 3")
	load(t, l, 1, "B", 3, 1, api.OK)
	loaded(t, l, "A", "2 2")
	load(t, l, 1, "S", 0, 0, api.ErrNone)
}

// P15.2: what has been loaded is not loaded again: a super that nobody offered, or a circle, is not asked for then.
func TestLoadedOnce(t *testing.T) {
	l := family(t, 0)
	offer(t, l, "0 A - 1", "1 B A 2")
	load(t, l, 1, "B", 2, 1, api.OK)
	offer(t, l, "0 B A 9")
	load(t, l, 1, "B", 2, 1, api.OK)
	loaded(t, l, "B", "- 2")
	offer(t, l, "1 A B 7", "1 C B 3")
	load(t, l, 1, "C", 3, 1, api.OK)
	loaded(t, l, "B", "- 2")
}

// P15.2: circles of one, of two and of many, met at once or on the way; nothing of them is loaded, each time anew.
func TestCircle(t *testing.T) {
	l := family(t, 0)
	offer(t, l, "1 Self Self 1", "1 On Self 2")
	for range 2 {
		load(t, l, 1, "Self", 0, 0, api.ErrCircle)
		load(t, l, 1, "On", 0, 0, api.ErrCircle)
		load(t, l, 0, "Self", 0, 0, api.ErrNone)
	}
	loaded(t, l, "On", "- -")
	offer(t, l, "0 Self - 3") // from now on it is the first that defines it
	load(t, l, 1, "On", 2, 1, api.OK)
	loaded(t, l, "Self", "3 3")

	l = family(t, 0)
	for n := range 20 {
		offer(t, l, fmt.Sprintf("1 C%d C%d %d", n, (n+1)%20, n))
	}
	for n := range 20 {
		load(t, l, 1, fmt.Sprint("C", n), 0, 0, api.ErrCircle)
		loaded(t, l, fmt.Sprint("C", n), "- -")
	}
	offer(t, l, "0 C7 - 99")
	load(t, l, 1, "C8", 8, 1, api.OK)
	loaded(t, l, "C6", "- 6")

	l = family(t, 0) // the same name, but of another loader, is no circle
	offer(t, l, "1 A B 1", "0 B A 2")
	load(t, l, 1, "A", 0, 0, api.ErrNone)
	offer(t, l, "0 A - 3")
	load(t, l, 1, "A", 3, 0, api.OK)
	load(t, l, 1, "B", 2, 0, api.OK)
}

// P15.2: what was loaded on the way stays, of each refusal.
func TestStays(t *testing.T) {
	l := family(t, 0, 0)
	offer(t, l, "0 T - 1", "0 S T 2", "1 A S 3", "2 A - 4")
	agree(t, l, 1, 2, "A", api.OK)
	load(t, l, 2, "A", 4, 2, api.OK)
	load(t, l, 1, "A", 0, 0, api.ErrBound)
	loaded(t, l, "T", "1 - -")
	loaded(t, l, "S", "2 2 -")
	loaded(t, l, "A", "- - 4")
	load(t, l, 1, "A", 0, 0, api.ErrBound)

	l = family(t, 0, 0) // refused at a super: what is behind it isn't loaded
	offer(t, l, "0 U - 1", "1 T U 2", "1 S T 3", "1 A S 4", "2 S - 9")
	agree(t, l, 2, 1, "S", api.OK)
	load(t, l, 2, "S", 9, 2, api.OK)
	load(t, l, 1, "A", 0, 0, api.ErrBound)
	loaded(t, l, "U", "1 1 -")
	loaded(t, l, "T", "- 2 -")
	loaded(t, l, "S", "- - 9")
	loaded(t, l, "A", "- - -")
}

// R1: supers in a line longer than calls can be deep in one another, and the same as a circle.
func TestLongLine(t *testing.T) {
	const many = 1 << 17
	l := family(t, 0)
	for n := range many {
		if why := l.Offer(n&1, fmt.Sprint("C", n), fmt.Sprint("C", n+1), n); why != api.OK {
			t.Fatal(why)
		}
	}
	load(t, l, 1, "C1", 0, 0, api.ErrNone) // C2 is of loader 0, which has no C3
	for n := range many {
		l.Offer(1-n&1, fmt.Sprint("C", n), fmt.Sprint("C", n+1), n)
	}
	load(t, l, 1, "C0", 0, 0, api.ErrNone)
	l.Offer(1, fmt.Sprint("C", many), "C5", 1)
	load(t, l, 1, "C0", 0, 0, api.ErrNone) // loader 0 doesn't see it
	l.Offer(0, fmt.Sprint("C", many), "C5", 1)
	load(t, l, 1, "C0", 0, 0, api.ErrCircle)
	loaded(t, l, "C6", "- -")

	l = family(t, 0)
	for n := range many {
		l.Offer(1, fmt.Sprint("C", n), strings.TrimPrefix(fmt.Sprint("C", n-1), "C-1"), n)
	}
	load(t, l, 1, fmt.Sprint("C", many-1), many-1, 1, api.OK)
	loaded(t, l, "C0", "- 0")
}
