package types_test

import (
	"math/rand"
	"slices"
	"testing"

	"carafe/kin"
	"carafe/types"
)

// table is what Fits answers of each two of the types l.
func table(k *kin.Kin, l []string) [][]bool {
	rows := make([][]bool, len(l))
	for i, a := range l {
		for _, b := range l {
			rows[i] = append(rows[i], types.Fits(k, a, b))
		}
	}
	return rows
}

// mustFollow holds P8.4 of all types of s, by what the calls answer alone.
func mustFollow(t *testing.T, k *kin.Kin, s said) {
	t.Helper()
	l := s.all()
	fits := table(k, l)
	for i, a := range l {
		if !fits[i][i] {
			t.Errorf("%s does not fit itself", a)
		}
		for j, b := range l {
			if i != j && fits[i][j] && fits[j][i] {
				t.Errorf("%s and %s fit each other", a, b)
			}
			x := slices.Index(l, types.Join(k, a, b))
			if x < 0 || !fits[i][x] || !fits[j][x] || types.Join(k, b, a) != l[x] {
				t.Fatalf("Join(%s, %s): %q", a, b, types.Join(k, a, b))
			}
			for n, c := range l {
				if fits[i][j] && fits[j][n] && !fits[i][n] {
					t.Errorf("%s fits %s, that %s, but not the first the last", a, b, c)
				}
				if fits[i][n] && fits[j][n] && !fits[x][n] {
					t.Errorf("%s and %s fit %s, their Join %s does not", a, b, c, l[x])
				}
			}
		}
	}
}

// P8.4: Fits is an order, and Join the least that both fit, of many sets of classes.
func TestFollows(t *testing.T) {
	mustFollow(t, kin.New(), always())
	k, s := some(t)
	mustFollow(t, k, s)
	r := rand.New(rand.NewSource(84))
	for _, draw := range shapes(r) {
		for range 3 {
			k, s := grown(t, 32-13, draw)
			mustFollow(t, k, s)
		}
	}
}

// P8.4: Join of three types is the same in whichever order they are joined.
func TestJoinOfThree(t *testing.T) {
	k, s := grown(t, 12, rand.New(rand.NewSource(85)).Intn)
	for _, a := range s.all() {
		for _, b := range s.all() {
			for _, c := range s.all() {
				one, two := types.Join(k, types.Join(k, a, b), c), types.Join(k, a, types.Join(k, b, c))
				if one != two {
					t.Errorf("of %s, %s and %s: %s or %s", a, b, c, one, two)
				}
			}
		}
	}
}
