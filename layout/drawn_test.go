package layout_test

import (
	"math/rand"
	"strings"
	"testing"

	"carafe/api"
	"carafe/kin"
)

// source gives out bytes, and 0 where none are left.
type source []byte

func (s *source) below(n int) int {
	if len(*s) == 0 {
		return 0
	}
	b := int((*s)[0])
	*s = (*s)[1:]
	return b % n
}

func (s *source) one(words string) string {
	l := strings.Fields(words)
	return l[s.below(len(l))]
}

// class is one of few names, so that it has much of what is above it anew; a Kin may well refuse it.
func (s *source) class(k *kin.Kin) api.Class {
	names := k.Names()
	super := names[len(names)-1]
	if s.below(3) > 0 {
		super = names[s.below(len(names))]
	}
	c := api.Class{Name: s.one("A B C D E F G H I J K L M N O P Q R S T"), Super: super}
	for range s.below(6) {
		c.Fields = append(c.Fields, api.Field{Name: s.one("x y z wait"), Desc: s.one("I [I LObject; [LThread;"), Static: s.below(2) == 0})
	}
	for range s.below(6) {
		m := api.Method{Name: s.one("m n s run wait start print t x"), Desc: s.one("()V ()V (I)V ()I"), Code: []byte{api.Return}}
		m.Static = m.Name == "s" || m.Name == "print" || m.Name == "t" && s.below(2) == 0
		c.Methods = append(c.Methods, m)
	}
	return c
}

// mustFollow holds P16.4 by what the calls answer alone.
func mustFollow(t *testing.T, k *kin.Kin) {
	t.Helper()
	l := laid(t, k)
	parts := sayings(k).parts()
	for _, a := range k.Names() {
		for _, b := range k.Line(a) {
			up, down := l.Fields(b), l.Fields(a)
			if len(up) > len(down) || told(up) != told(down[:len(up)]) || l.Slots(b) > l.Slots(a) {
				t.Fatalf("%s below %s: %v, %v", a, b, down, up)
			}
			for n := range l.Slots(b) {
				x, _, _ := l.Select(a, n)
				y, _, _ := l.Select(b, n)
				if !k.Sub(a, x) || !k.Sub(x, y) {
					t.Fatalf("%s below %s: slot %d of %s, of %s", a, b, n, x, y)
				}
			}
			for _, p := range parts {
				n, ok := l.Slot(b, p[0], p[1])
				if m, is := l.Slot(a, p[0], p[1]); ok && (m != n || !is) {
					t.Fatalf("%s below %s: %s at %d, at %d", a, b, p, m, n)
				}
				x, f, has := k.Field(a, p[0], p[1])
				if !has || !k.Sub(b, x) {
					continue
				}
				m, is := l.Offset(a, p[0], p[1])
				if n, ok := l.Offset(b, p[0], p[1]); m != n || is != ok || is == f.Static {
					t.Fatalf("%s below %s: %s at %d, at %d", a, b, p, m, n)
				}
				m, is = l.Static(a, p[0], p[1])
				if n, ok := l.Static(b, p[0], p[1]); m != n || is != ok || is != f.Static {
					t.Fatalf("%s below %s: %s is %d, is %d", a, b, p, m, n)
				}
			}
		}
	}
}

// P16.1, P16.2, P16.3, P16.4: sets of classes that are drawn.
func TestDrawn(t *testing.T) {
	r := rand.New(rand.NewSource(16))
	let, refused, most := 0, 0, 0
	for n := range 150 {
		data := make([]byte, 40+n*4)
		r.Read(data)
		k, s := kin.New(), source(data)
		for len(s) > 0 {
			if k.Add(s.class(k)) == api.OK {
				let++
			} else {
				refused++
			}
		}
		l := laid(t, k)
		mustTell(t, l, sayings(k))
		mustFollow(t, k)
		most = max(most, len(k.Names()))
	}
	if let < 500 || refused < 200 || most < 28 {
		t.Errorf("only %d are let by, %d refused; %d at most", let, refused, most)
	}
}

// P16.1, P16.2, P16.3, P16.4: whatever classes come, they are laid as the chapter says.
func FuzzLayout(f *testing.F) {
	r := rand.New(rand.NewSource(1))
	for range 20 {
		data := make([]byte, 200)
		r.Read(data)
		f.Add(data)
	}
	f.Fuzz(func(t *testing.T, data []byte) {
		k, s := kin.New(), source(data[:min(len(data), 500)])
		for len(s) > 0 {
			k.Add(s.class(k))
		}
		mustTell(t, laid(t, k), sayings(k))
		mustFollow(t, k)
	})
}
