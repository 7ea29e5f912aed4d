package pool_test

import (
	"slices"
	"strings"
	"testing"

	"carafe/api"
	"carafe/mutf"
	"carafe/pool"
)

// text is a number by two bytes of how many s has, and these.
func text(s string) string {
	return string([]byte{byte(len(s) >> 8), byte(len(s))}) + s
}

// entry says anew how P3.2 writes one.
func entry(c api.Const) string {
	kind := string([]byte{byte(c.Kind)})
	switch c.Kind {
	case 3:
		return kind + string([]byte{byte(c.N >> 24), byte(c.N >> 16), byte(c.N >> 8), byte(c.N)})
	case 7:
		return kind + text(c.Class)
	}
	return kind + text(c.Class) + text(c.Name) + text(c.Desc)
}

// written says anew how P3.2 writes all of them.
func written(l []api.Const) string {
	var b strings.Builder
	b.Write([]byte{byte(len(l) >> 8), byte(len(l))})
	for _, c := range l {
		b.WriteString(entry(c))
	}
	return b.String()
}

// inBytes tells whether the bytes of c say all of it, as texts that a reader takes.
func inBytes(c api.Const) bool {
	for _, s := range []string{c.Class, c.Name, c.Desc} {
		if len(s) > api.MaxText || strings.ContainsAny(s, "\x00\xff") {
			return false
		}
	}
	switch c.Kind {
	case 7:
		return c.N == 0 && c.Name == "" && c.Desc == ""
	case 9, 10:
		return c.N == 0
	}
	return false
}

func mustWrite(t *testing.T, l []api.Const, want string) {
	t.Helper()
	w := mutf.NewWriter()
	if why := pool.Write(w, l); why != api.OK || string(w.Done()) != want {
		t.Errorf("Write: %v, %x, want %x", why, w.Done(), want)
	}
}

func mustRead(t *testing.T, b string, want []api.Const) {
	t.Helper()
	r := mutf.NewReader([]byte(b))
	l := pool.Read(r)
	if why, at := r.End(); why != api.OK || at != 0 || !slices.Equal(l, want) {
		t.Errorf("Read(%x): %+v, %v at %d", b, l, why, at)
	}
}

func mustRefuse(t *testing.T, b string, want api.Errno, place int) {
	t.Helper()
	r := mutf.NewReader([]byte(b))
	l := pool.Read(r)
	if why, at := r.End(); why != want || at != place || len(l) > 0 || r.Left() != 0 {
		t.Errorf("Read(%x): %d entries, %v at %d, want %v at %d", b, len(l), why, at, want, place)
	}
}

// P3.2: the run, the example, and one of each kind by its bytes.
func TestBytes(t *testing.T) {
	for want, l := range map[string][]api.Const{
		"\x00\x00":                                            nil,
		"\x00\x01\x03\x00\x00\x00\x05":                        {{Kind: api.ConstInt, N: 5}},
		"\x00\x01\x03\xff\xff\xff\xfb":                        {{Kind: api.ConstInt, N: -5}},
		"\x00\x01\x03\x80\x00\x00\x00":                        {{Kind: api.ConstInt, N: -1 << 31}},
		"\x00\x01\x03\x01\x02\x03\x04":                        {{Kind: api.ConstInt, N: 0x01020304}},
		"\x00\x01\x07\x00\x01A":                               {{Kind: api.ConstClass, Class: "A"}},
		"\x00\x01\x07\x00\x02[I":                              {{Kind: api.ConstClass, Class: "[I"}},
		"\x00\x01\x09\x00\x01A\x00\x02bc\x00\x01I":            {{Kind: api.ConstField, Class: "A", Name: "bc", Desc: "I"}},
		"\x00\x01\x0a\x00\x02AB\x00\x01b\x00\x03()V":          {{Kind: api.ConstMethod, Class: "AB", Name: "b", Desc: "()V"}},
		"\x00\x02\x07\x00\x01A\x03\x00\x00\x00\x00":           {{Kind: api.ConstClass, Class: "A"}, {Kind: api.ConstInt}},
		"\x00\x02\x03\x00\x00\x00\x07\x03\x00\x00\x00\x07":    {{Kind: api.ConstInt, N: 7}, {Kind: api.ConstInt, N: 7}},
		"\x00\x01\x0a\x00\x01A\x00\x01b\x01\x00" + sized(256): {{Kind: api.ConstMethod, Class: "A", Name: "b", Desc: sized(256)}},
	} {
		mustWrite(t, l, want)
		mustRead(t, want, l)
	}
	mustWrite(t, []api.Const{}, "\x00\x00")
}

// P3.2, W6: each entry alone, in pairs, and all of them.
func TestBackAndForth(t *testing.T) {
	all := entries()
	mustWrite(t, all, written(all))
	mustRead(t, written(all), all)
	for _, c := range all {
		for _, d := range all {
			l := []api.Const{c, d}
			mustWrite(t, l[:1], written(l[:1]))
			mustWrite(t, l, written(l))
			mustRead(t, written(l), l)
		}
	}
}

// P3.2: as many as there may be, and one more.
func TestMany(t *testing.T) {
	for _, n := range []int{255, 256} {
		mustWrite(t, numbers(n), written(numbers(n)))
		mustRead(t, written(numbers(n)), numbers(n))
	}
	for _, n := range []int{257, 258, 512, 65535} {
		mustNotWrite(t, numbers(n), api.ErrMany)
		mustRefuse(t, written(numbers(n)), api.ErrMany, 2)
		mustRefuse(t, written(numbers(n))[:2], api.ErrMany, 2)
	}
	mustNotWrite(t, numbers(65536), api.ErrMany)
	mustNotWrite(t, numbers(65537), api.ErrMany)
}

// mustNotWrite holds that a refusal leaves what is written as it was.
func mustNotWrite(t *testing.T, l []api.Const, want api.Errno) {
	t.Helper()
	w := mutf.NewWriter()
	w.Text("ahead")
	was := string(w.Done())
	if why := pool.Write(w, l); why != want || string(w.Done()) != was {
		t.Errorf("Write of %d: %v, %x, want %v", len(l), why, w.Done(), want)
	}
}

// P3.2: refusals, wherever the wrong one stands, and in their order.
func TestWriteRefuses(t *testing.T) {
	for _, c := range wrong() {
		mustNotWrite(t, []api.Const{c}, api.ErrRef)
		mustNotWrite(t, append(entries(), c), api.ErrRef)
		mustNotWrite(t, append([]api.Const{c}, entries()...), api.ErrRef)
		mustNotWrite(t, append(numbers(255), c), api.ErrRef)
		mustNotWrite(t, append(numbers(256), c), api.ErrMany)
		mustNotWrite(t, append([]api.Const{c}, numbers(256)...), api.ErrMany)
	}
	for _, l := range [][]api.Const{nil, {}, entries(), wrong(), numbers(257)} {
		if why := pool.Write(nil, l); why != api.ErrArg {
			t.Errorf("Write to nil: %v", why)
		}
	}
}

// R2, R5: Write leaves its list as it is, and reads nothing behind its end.
func TestWriteLeavesItsList(t *testing.T) {
	whole := append(entries(), wrong()...)
	mustWrite(t, whole[:len(entries())], written(entries()))
	if !slices.Equal(whole, append(entries(), wrong()...)) {
		t.Errorf("changed: %+v", whole)
	}
}

// P3.2: a pool stands among other things, which are left as they are.
func TestAmongOthers(t *testing.T) {
	w := mutf.NewWriter()
	w.Number(0xbe, 1)
	for _, l := range [][]api.Const{entries(), nil, entries()[:3]} {
		if why := pool.Write(w, l); why != api.OK {
			t.Fatalf("Write: %v", why)
		}
	}
	w.Number(0xef, 1)
	r := mutf.NewReader(w.Done())
	ahead, first, second, third := r.Number(1), pool.Read(r), pool.Read(r), pool.Read(r)
	if r.Left() != 1 || ahead != 0xbe || !slices.Equal(first, entries()) || len(second) > 0 || !slices.Equal(third, entries()[:3]) {
		t.Errorf("%x, %+v, %+v, %+v, %d left", ahead, first, second, third, r.Left())
	}
	if behind := r.Number(1); behind != 0xef {
		t.Errorf("behind: %x", behind)
	}
}

// P3.2: whatever is cut off is refused at the end of all.
func TestReadCutOff(t *testing.T) {
	for _, l := range [][]api.Const{entries(), {{Kind: api.ConstInt, N: 5}}, nil} {
		b := written(l)
		for n := range len(b) {
			mustRefuse(t, b[:n], api.ErrEnd, n)
		}
	}
	mustRefuse(t, "\x01\x00", api.ErrEnd, 2)
	mustRefuse(t, "\x00\x01\x07\x00\x05A", api.ErrEnd, 6)
}

// P3.2: each byte as a kind, as the first entry's and as a later one's.
func TestReadKinds(t *testing.T) {
	for kind := range 256 {
		if kind == 3 || kind == 7 || kind == 9 || kind == 10 {
			continue
		}
		b := string([]byte{byte(kind)})
		mustRefuse(t, "\x00\x01"+b, api.ErrForm, 3)
		mustRefuse(t, "\x00\x01"+b+"\x00\x01A", api.ErrForm, 3)
		mustRefuse(t, "\x00\x02\x03\x00\x00\x00\x05"+b+"\x00\x00\x00\x00", api.ErrForm, 8)
		mustRefuse(t, "\x00\x02"+b+"\x00\x00\x00\x00\x03\x00\x00\x00\x05", api.ErrForm, 3)
	}
}

// P3.2: what is not right is refused behind all of it, though more may follow; what the reader refuses, where it does.
func TestReadRefuses(t *testing.T) {
	said := 0
	for _, c := range wrong() {
		if !inBytes(c) {
			continue
		}
		said++
		b := entry(c)
		mustRefuse(t, "\x00\x01"+b, api.ErrRef, 2+len(b))
		mustRefuse(t, "\x00\x01"+b+"\x03", api.ErrRef, 2+len(b))
		mustRefuse(t, "\x00\x02\x03\x00\x00\x00\x05"+b, api.ErrRef, 7+len(b))
		mustRefuse(t, "\x00\x02"+b+"\x04", api.ErrRef, 2+len(b))
	}
	if said < 25 {
		t.Errorf("only %d wrong entries were read", said)
	}
	for b, want := range map[string]struct {
		why api.Errno
		at  int
	}{
		"\x00\x01\x07\x00\x01\xff":                                   {api.ErrForm, 6},
		"\x00\x01\x07\x00\x02A\x00":                                  {api.ErrForm, 7},
		"\x00\x01\x07\x00\x03A\xc0\x80":                              {api.ErrRef, 8},
		"\x00\x01\x07\x01\x01" + strings.Repeat("n", 257):            {api.ErrLong, 5},
		"\x00\x01\x07\x01\x00" + strings.Repeat("n", 256):            {api.ErrRef, 261},
		"\x00\x01\x09\x00\x011\x00\x01b\x01\x01":                     {api.ErrLong, 11},
		"\x00\x01\x0a\x00\x01A\x00\x01b\x01\x01" + sized(257):        {api.ErrLong, 11},
		"\x00\x01\x09\x00\x01A\x00\x01\x80\x00\x01I":                 {api.ErrForm, 9},
		"\x00\x01\x09\x00\x01A\x00\x01b\x00\x01V\x07\x00\x011":       {api.ErrRef, 12},
		"\x00\x02\x07\x00\x011\x07\x00\x01\xff":                      {api.ErrRef, 6},
		"\x00\x02\x07\x00\x01\xff\x07\x00\x011":                      {api.ErrForm, 6},
		"\x00\x02\x0a\x00\x01A\x00\x01b\x00\x03()V\x0a\x00\x01A\x00": {api.ErrEnd, 19},
	} {
		mustRefuse(t, b, want.why, want.at)
	}
}

// P3.2: a reader that refused ahead stands still, whatever it refused with, ErrTail too; nil is none.
func TestReadBehindARefusal(t *testing.T) {
	for _, why := range []api.Errno{api.ErrForm, api.ErrTail, api.ErrEnd, api.ErrMany, -1} {
		r := mutf.NewReader([]byte("z" + written(entries())))
		r.Number(1)
		r.Fail(why)
		l := pool.Read(r)
		if got, at := r.End(); got != why || at != 1 || len(l) > 0 {
			t.Errorf("behind %v: %d entries, %v at %d", why, len(l), got, at)
		}
	}
	if l := pool.Read(nil); len(l) > 0 {
		t.Errorf("Read(nil): %+v", l)
	}
}

// R2: what is read is new memory.
func TestReadAnswersNewMemory(t *testing.T) {
	b := []byte(written(entries()) + written(entries()))
	r := mutf.NewReader(b)
	first, second := pool.Read(r), pool.Read(r)
	all := first[:cap(first)]
	for i := range all {
		all[i] = api.Const{}
	}
	for i := range b {
		b[i] = 0
	}
	if !slices.Equal(second, entries()) {
		t.Errorf("%+v", second)
	}
}

// P3.2, W6: bytes that are read are written so again; others are refused with a number that Read has.
func FuzzBytes(f *testing.F) {
	for _, b := range []string{"", "\x00\x00", written(entries()), "\x01\x01", "\x00\x01\x04", "\x00\x01\x07\x00\x011", "\x00\x01\x07\x02\x00"} {
		f.Add([]byte(b))
	}
	f.Fuzz(func(t *testing.T, b []byte) {
		r := mutf.NewReader(b)
		l := pool.Read(r)
		why, at := r.End()
		switch why {
		case api.OK:
			at = len(b)
			fallthrough
		case api.ErrTail:
			mustWrite(t, l, string(b[:at]))
			for _, c := range l {
				if !isRight(c) {
					t.Errorf("%+v", c)
				}
			}
		case api.ErrEnd, api.ErrForm, api.ErrLong, api.ErrMany, api.ErrRef:
			if len(l) > 0 || at > len(b) {
				t.Errorf("%d entries beside %v at %d", len(l), why, at)
			}
		default:
			t.Errorf("%v at %d", why, at)
		}
	})
}
