package loader_test

import (
	"fmt"
	"testing"

	"carafe/api"
	"carafe/loader"
)

// pair has two that stand beside one another and offer A as unlike ids.
func pair(t *testing.T) *loader.Loaders {
	t.Helper()
	l := family(t, 0, 0)
	offer(t, l, "1 A - 1", "2 A - 2")
	return l
}

// P15.3: who agrees and hasn't loaded a name must load it as the others have, each time anew; on other names nobody agrees.
func TestMust(t *testing.T) {
	l := pair(t)
	offer(t, l, "1 B - 3", "2 B - 4")
	agree(t, l, 1, 2, "A", api.OK)
	load(t, l, 1, "A", 1, 1, api.OK)
	for range 2 {
		load(t, l, 2, "A", 0, 0, api.ErrBound)
		loaded(t, l, "A", "- 1 -")
	}
	load(t, l, 1, "B", 3, 1, api.OK)
	load(t, l, 2, "B", 4, 2, api.OK)
	agree(t, l, 1, 2, "A", api.OK)
	agree(t, l, 1, 2, "B", api.ErrBound)

	offer(t, l, "0 A - 1") // which is the same id
	load(t, l, 2, "A", 1, 0, api.OK)
	load(t, l, 1, "A", 1, 1, api.OK)
}

// P15.3: two that have loaded a name as one id agree, and two that have loaded it as unlike ones never do.
func TestAgreeBehind(t *testing.T) {
	l := pair(t)
	load(t, l, 1, "A", 1, 1, api.OK)
	load(t, l, 2, "A", 2, 2, api.OK)
	for range 2 {
		agree(t, l, 1, 2, "A", api.ErrBound)
		agree(t, l, 2, 1, "A", api.ErrBound)
	}
	agree(t, l, 1, 1, "A", api.OK)
	agree(t, l, 2, 2, "A", api.OK)

	l = family(t, 0, 0)
	offer(t, l, "1 A - 0", "2 A - 0")
	load(t, l, 1, "A", 0, 1, api.OK)
	load(t, l, 2, "A", 0, 2, api.OK)
	agree(t, l, 1, 2, "A", api.OK)
	load(t, l, 2, "A", 0, 2, api.OK)
}

// P15.3, R3: an agreement that is refused binds nobody.
func TestRefusedBindsNobody(t *testing.T) {
	l := family(t, 0, 0, 0, 0)
	offer(t, l, "1 A - 1", "2 A - 2", "3 A - 3", "4 A - 4")
	load(t, l, 1, "A", 1, 1, api.OK)
	load(t, l, 2, "A", 2, 2, api.OK)
	agree(t, l, 1, 3, "A", api.OK)
	agree(t, l, 3, 2, "A", api.ErrBound)
	agree(t, l, 4, 5, "A", api.ErrArg)
	agree(t, l, 2, 4, "A", api.OK)
	agree(t, l, 3, 4, "A", api.ErrBound)
	load(t, l, 3, "A", 0, 0, api.ErrBound)
	load(t, l, 4, "A", 0, 0, api.ErrBound)
	offer(t, l, "0 A - 2")
	load(t, l, 4, "A", 2, 0, api.OK)
	load(t, l, 3, "A", 0, 0, api.ErrBound)
	loaded(t, l, "A", "2 1 2 - 2")
}

// P15.3: chains of each form, of all loaders that there may be: who is first binds all others, wherever they stand.
func TestChains(t *testing.T) {
	for form, of := range map[string]func(n int) (int, int){
		"on":        func(n int) (int, int) { return n, n + 1 },
		"back":      func(n int) (int, int) { return n + 1, n },
		"from 1":    func(n int) (int, int) { return 1, n + 1 },
		"to 1":      func(n int) (int, int) { return n + 1, 1 },
		"from last": func(n int) (int, int) { return 15, 15 - n },
		"halves":    func(n int) (int, int) { return (n + 1) / 2, n + 1 },
		"by jumps":  func(n int) (int, int) { return 1 + 4*n%15, 1 + 4*(n+1)%15 },
	} {
		for first := 1; first < 16; first += 7 {
			l := family(t, make([]int, 15)...)
			for n := 1; n < 16; n++ {
				offer(t, l, fmt.Sprintf("%d A - %d", n, n), fmt.Sprintf("%d B - %d", n, n))
			}
			for n := 1; n < 15; n++ {
				a, b := of(n)
				agree(t, l, a, b, "A", api.OK)
			}
			for n := 1; n < 16; n++ {
				m := 1 + (first+n-2)%15
				if n == 1 {
					load(t, l, m, "A", m, m, api.OK)
				} else {
					load(t, l, m, "A", 0, 0, api.ErrBound)
				}
				load(t, l, m, "B", m, m, api.OK)
			}
			if t.Failed() {
				t.Fatal(form, first)
			}
		}
	}
}

// P15.3: chains that meet through one who has loaded nothing.
func TestChainsMeet(t *testing.T) {
	l := family(t, 0, 0, 0, 0)
	offer(t, l, "1 A - 1", "4 A - 4", "3 A - 1")
	load(t, l, 1, "A", 1, 1, api.OK)
	load(t, l, 4, "A", 4, 4, api.OK)
	agree(t, l, 1, 2, "A", api.OK)
	agree(t, l, 3, 4, "A", api.OK)
	agree(t, l, 2, 3, "A", api.ErrBound)
	agree(t, l, 3, 2, "A", api.ErrBound)
	agree(t, l, 1, 3, "A", api.ErrBound)
	agree(t, l, 2, 4, "A", api.ErrBound)
	agree(t, l, 0, 2, "A", api.OK)
	agree(t, l, 0, 3, "A", api.ErrBound)
	load(t, l, 3, "A", 0, 0, api.ErrBound)
	offer(t, l, "0 A - 4")
	load(t, l, 0, "A", 0, 0, api.ErrBound)
	load(t, l, 3, "A", 0, 0, api.ErrBound) // since loader 0 would have to load it too
	loaded(t, l, "A", "- 1 - - 4")
}

// P15.2, P15.3: at the first that disagrees a Load ends; those ahead keep the name, those behind don't get it.
func TestFirstThatDisagrees(t *testing.T) {
	for at := range 5 {
		l := family(t, 0, 1, 2, 3, 0)
		offer(t, l, "5 A - 7")
		load(t, l, 5, "A", 7, 5, api.OK)
		agree(t, l, 5, at, "A", api.OK)
		if at < 4 {
			agree(t, l, 4, 5, "A", api.OK) // it is behind
		}
		offer(t, l, "0 A - 4")
		load(t, l, 4, "A", 0, 0, api.ErrBound)
		for n := range 5 {
			if id, ok := l.Loaded(n, "A"); ok != (n < at) || ok && id != 4 {
				t.Errorf("of %d, which disagrees: Loaded(%d): %d, %v", at, n, id, ok)
			}
		}
		load(t, l, 5, "A", 7, 5, api.OK)
	}
}

// P15.3, P15.4: those of one line agree whatever is offered below.
func TestLineAgrees(t *testing.T) {
	l := family(t, 0, 1)
	agree(t, l, 0, 2, "A", api.OK)
	offer(t, l, "2 A - 2", "1 A - 1")
	load(t, l, 2, "A", 1, 1, api.OK)
	offer(t, l, "0 A - 3")
	load(t, l, 0, "A", 0, 0, api.ErrBound)
	load(t, l, 1, "A", 1, 1, api.OK)
	agree(t, l, 0, 1, "A", api.OK)
	loaded(t, l, "A", "- 1 1")
}

// P15.3: a child of later may agree, and a name need not be one that anybody offers, or can.
func TestAgreeOnAnything(t *testing.T) {
	l := family(t, 0)
	agree(t, l, 0, 1, "A", api.OK)
	agree(t, l, 1, 0, "", api.OK)
	agree(t, l, 1, 0, "no name", api.OK)
	for n := range 14 {
		if _, why := l.Child(n); why != api.OK {
			t.Fatal(why)
		}
	}
	agree(t, l, 15, 1, "A", api.OK)
	offer(t, l, "15 A - 1")
	load(t, l, 15, "A", 1, 15, api.OK)
	offer(t, l, "0 A - 2")
	load(t, l, 0, "A", 0, 0, api.ErrBound)
}
