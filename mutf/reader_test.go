package mutf_test

import (
	"math"
	"strings"
	"testing"

	"carafe/api"
	"carafe/mutf"
)

func mustEnd(t *testing.T, r *mutf.Reader, why api.Errno, at int) {
	t.Helper()
	if e, n := r.End(); e != why || n != at {
		t.Errorf("End: %v at %d, want %v at %d", e, n, why, at)
	}
}

// mustStand holds that nothing is read and nothing moves behind a refusal.
func mustStand(t *testing.T, r *mutf.Reader, why api.Errno, at int) {
	t.Helper()
	for range 2 {
		mustEnd(t, r, why, at)
		if r.Left() != 0 {
			t.Errorf("Left: %d", r.Left())
		}
		for _, n := range []int{-1, 0, 1, 8, 9} {
			if x := r.Number(n); x != 0 {
				t.Errorf("Number(%d): %d", n, x)
			}
			if x := r.Bytes(n); len(x) != 0 {
				t.Errorf("Bytes(%d): %x", n, x)
			}
		}
		if x := r.Text(); x != "" {
			t.Errorf("Text: %q", x)
		}
		r.Fail(api.ErrMany)
		r.Fail(api.OK)
	}
}

// P1.3: numbers by 1 to 8 bytes, and by what is brought there.
func TestReadNumbers(t *testing.T) {
	b := []byte{0x81, 2, 3, 4, 5, 6, 7, 0xf8, 9}
	for _, c := range []struct {
		bytes int
		want  uint64
		left  int
	}{
		{math.MinInt, 0x81, 8}, {-1, 0x81, 8}, {0, 0x81, 8}, {1, 0x81, 8},
		{2, 0x8102, 7}, {3, 0x810203, 6}, {4, 0x81020304, 5}, {5, 0x8102030405, 4},
		{6, 0x810203040506, 3}, {7, 0x81020304050607, 2}, {8, 0x81020304050607f8, 1},
		{9, 0x81020304050607f8, 1}, {math.MaxInt, 0x81020304050607f8, 1},
	} {
		r := mutf.NewReader(b)
		if n := r.Number(c.bytes); uint64(n) != c.want || r.Left() != c.left {
			t.Errorf("Number(%d): %x, %d left", c.bytes, n, r.Left())
		}
	}
}

// P1.3: texts that come.
func TestReadTexts(t *testing.T) {
	for _, c := range []struct{ bytes, want string }{
		{"\x00\x00", ""},
		{"\x00\x01a", "a"},
		{"\x00\x03a\xc0\x80", "a\x00"},
		{"\x00\x06\xed\xa0\x80\xed\xb0\x80", "\U00010000"},
		{"\x00\xff" + strings.Repeat("x", 255), strings.Repeat("x", 255)},
		{"\x01\x00" + strings.Repeat("x", 256), strings.Repeat("x", 256)},
		{"\x01\x00" + strings.Repeat("\xc0\x80", 128), strings.Repeat("\x00", 128)},
	} {
		r := mutf.NewReader([]byte(c.bytes))
		if s := r.Text(); s != c.want {
			t.Errorf("Text of %x: %q", c.bytes, s)
		}
		mustEnd(t, r, api.OK, 0)
	}
}

// P1.3: bytes, how many are left, and that bytes behind are told, not refused.
func TestReadAll(t *testing.T) {
	r := mutf.NewReader([]byte("abc\x00\x01dz"))
	mustEnd(t, r, api.ErrTail, 0)
	for _, n := range []int{-1, 0, math.MinInt} {
		if x := r.Bytes(n); len(x) != 0 || r.Left() != 7 {
			t.Errorf("Bytes(%d): %x, %d left", n, x, r.Left())
		}
	}
	if x := r.Bytes(2); string(x) != "ab" || r.Left() != 5 {
		t.Errorf("Bytes(2): %x, %d left", x, r.Left())
	}
	mustEnd(t, r, api.ErrTail, 2)
	if n, s := r.Number(1), r.Text(); n != 'c' || s != "d" || r.Left() != 1 {
		t.Errorf("%d, %q, %d left", n, s, r.Left())
	}
	mustEnd(t, r, api.ErrTail, 6)
	if x := r.Bytes(1); string(x) != "z" || r.Left() != 0 {
		t.Errorf("Bytes(1): %x, %d left", x, r.Left())
	}
	mustEnd(t, r, api.OK, 0)
	if x := r.Bytes(0); len(x) != 0 {
		t.Errorf("Bytes(0) at the end: %x", x)
	}
	mustEnd(t, r, api.OK, 0)
}

func text(r *mutf.Reader)               { r.Text() }
func number(n int) func(r *mutf.Reader) { return func(r *mutf.Reader) { r.Number(n) } }
func some(n int) func(r *mutf.Reader)   { return func(r *mutf.Reader) { r.Bytes(n) } }

// P1.3: each refusal, its place, and that it stays.
func TestReadRefuses(t *testing.T) {
	for _, c := range []struct {
		bytes string
		read  func(r *mutf.Reader)
		why   api.Errno
		at    int
	}{
		{"", number(1), api.ErrEnd, 0},
		{"", number(-1), api.ErrEnd, 0},
		{"", some(1), api.ErrEnd, 0},
		{"", text, api.ErrEnd, 0},
		{"abc", number(4), api.ErrEnd, 3},
		{"abcdefg", number(9), api.ErrEnd, 7},
		{"abc", some(4), api.ErrEnd, 3},
		{"abc", some(math.MaxInt), api.ErrEnd, 3},
		{"abc", func(r *mutf.Reader) { r.Bytes(2); r.Bytes(math.MaxInt) }, api.ErrEnd, 3},
		{"abc", func(r *mutf.Reader) { r.Bytes(3); r.Bytes(math.MaxInt - 2) }, api.ErrEnd, 3},
		{"\x00", text, api.ErrEnd, 1},
		{"\x00\x02a", text, api.ErrEnd, 3},
		{"\x00\x02\xff", text, api.ErrEnd, 3},
		{"\x01\x00" + strings.Repeat("x", 255), text, api.ErrEnd, 257},
		{"\x01\x01", text, api.ErrLong, 2},
		{"\x01\x01" + strings.Repeat("x", 300), text, api.ErrLong, 2},
		{"\x01\x01" + strings.Repeat("\xff", 257), text, api.ErrLong, 2},
		{"\xff\xffabc", text, api.ErrLong, 2},
		{"\x00\x01\xffz", text, api.ErrForm, 3},
		{"\x00\x01\x00", text, api.ErrForm, 3},
		{"\x00\x03\xed\xa0\x80", text, api.ErrForm, 5},
		{"\x00\x04a\x00bcz", text, api.ErrForm, 6},
		{"abc", func(r *mutf.Reader) { r.Fail(api.ErrRef) }, api.ErrRef, 0},
		{"abc", func(r *mutf.Reader) { r.Number(2); r.Fail(api.ErrOp) }, api.ErrOp, 2},
		{"abc", func(r *mutf.Reader) { r.Bytes(3); r.Fail(api.ErrTail) }, api.ErrTail, 3},
		{"abc", func(r *mutf.Reader) { r.Fail(api.OK); r.Fail(api.ErrDesc) }, api.ErrDesc, 0},
		{"abc", func(r *mutf.Reader) { r.Bytes(1); r.Fail(-7) }, -7, 1},
		{"abc", func(r *mutf.Reader) { r.Bytes(1); r.Fail(api.ErrRef); r.Bytes(9) }, api.ErrRef, 1},
		{"abc", func(r *mutf.Reader) { r.Bytes(9); r.Fail(api.ErrRef) }, api.ErrEnd, 3},
		{"abc", func(r *mutf.Reader) { r.End(); r.Bytes(9) }, api.ErrEnd, 3},
	} {
		r := mutf.NewReader([]byte(c.bytes))
		c.read(r)
		mustStand(t, r, c.why, c.at)
		if t.Failed() {
			t.Fatalf("of %x", c.bytes)
		}
	}
}

// P1.3, R3: what is refused gives nothing of what was there.
func TestRefusedIsNothing(t *testing.T) {
	if n := mutf.NewReader([]byte("abc")).Number(4); n != 0 {
		t.Errorf("Number: %x", n)
	}
	if b := mutf.NewReader([]byte("abc")).Bytes(4); len(b) != 0 {
		t.Errorf("Bytes: %x", b)
	}
	for _, b := range []string{"\x00\x02a", "\x01\x01" + strings.Repeat("x", 257), "\x00\x02a\xff"} {
		if s := mutf.NewReader([]byte(b)).Text(); s != "" {
			t.Errorf("Text of %x: %q", b, s)
		}
	}
}

// P1.3: OK is no refusal.
func TestFailOK(t *testing.T) {
	r := mutf.NewReader([]byte("ab"))
	r.Fail(api.OK)
	if r.Left() != 2 || r.Number(1) != 'a' {
		t.Error("Fail(OK) refuses")
	}
	mustEnd(t, r, api.ErrTail, 1)
}

// R4: nil and empty lists mean the same.
func TestReadNothing(t *testing.T) {
	for _, b := range [][]byte{nil, {}} {
		r := mutf.NewReader(b)
		if r.Left() != 0 || len(r.Bytes(0)) != 0 {
			t.Error("something of nothing")
		}
		mustEnd(t, r, api.OK, 0)
	}
}

// R2: the Reader, what it was given and what it answers share nothing; room behind a length is not read.
func TestReaderShares(t *testing.T) {
	in := []byte("abcdef")
	r := mutf.NewReader(in[:4])
	in[0] = 'z'
	first := r.Bytes(2)
	if string(first) != "ab" || r.Left() != 2 {
		t.Errorf("%q, %d left", first, r.Left())
	}
	room := first[:cap(first)]
	for i := range room {
		room[i] = '!'
	}
	if x := r.Bytes(2); string(x) != "cd" {
		t.Errorf("%q", x)
	}
	mustEnd(t, r, api.OK, 0)
	if string(in) != "zbcdef" {
		t.Errorf("changed to %q", in)
	}
}

// W6: what is written is read, as it was.
func TestWriteRead(t *testing.T) {
	w := mutf.NewWriter()
	numbers := []int64{0, 1, 255, 256, 1<<32 - 1, math.MaxInt64, -1, math.MinInt64}
	texts := []string{"", "a", "\x00", "\u07ff\u0800\uffff", "\U0010ffff", strings.Repeat("x", 256)}
	for _, n := range numbers {
		w.Number(n, 8)
	}
	for _, s := range texts {
		w.Text(s)
	}
	w.Bytes([]byte{0, 255})
	r := mutf.NewReader(w.Done())
	for _, n := range numbers {
		if x := r.Number(8); x != n {
			t.Errorf("%d came back as %d", n, x)
		}
	}
	for _, s := range texts {
		if x := r.Text(); x != s {
			t.Errorf("%q came back as %q", s, x)
		}
	}
	if x := r.Bytes(2); string(x) != "\x00\xff" {
		t.Errorf("bytes came back as %x", x)
	}
	mustEnd(t, r, api.OK, 0)
}
