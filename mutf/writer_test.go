package mutf_test

import (
	"bytes"
	"math"
	"strings"
	"testing"

	"carafe/mutf"
)

func mustWrite(t *testing.T, want string, write func(w *mutf.Writer)) {
	t.Helper()
	w := mutf.NewWriter()
	write(w)
	if got := w.Done(); string(got) != want {
		t.Errorf("%x, want %x", got, want)
	}
}

// P1.2: numbers by 1 to 8 bytes, and by what is brought there.
func TestWriteNumbers(t *testing.T) {
	for _, c := range []struct {
		n     int64
		bytes int
		want  string
	}{
		{0x0102030405060708, 1, "\x08"},
		{0x0102030405060708, 2, "\x07\x08"},
		{0x0102030405060708, 3, "\x06\x07\x08"},
		{0x0102030405060708, 4, "\x05\x06\x07\x08"},
		{0x0102030405060708, 5, "\x04\x05\x06\x07\x08"},
		{0x0102030405060708, 6, "\x03\x04\x05\x06\x07\x08"},
		{0x0102030405060708, 7, "\x02\x03\x04\x05\x06\x07\x08"},
		{0x0102030405060708, 8, "\x01\x02\x03\x04\x05\x06\x07\x08"},
		{1, 9, "\x00\x00\x00\x00\x00\x00\x00\x01"},
		{1, math.MaxInt, "\x00\x00\x00\x00\x00\x00\x00\x01"},
		{0x1ff, 0, "\xff"},
		{0x1ff, -1, "\xff"},
		{0x1ff, math.MinInt, "\xff"},
		{-2, 3, "\xff\xff\xfe"},
		{math.MinInt64, 8, "\x80\x00\x00\x00\x00\x00\x00\x00"},
		{math.MaxInt64, 8, "\x7f\xff\xff\xff\xff\xff\xff\xff"},
	} {
		mustWrite(t, c.want, func(w *mutf.Writer) { w.Number(c.n, c.bytes) })
	}
}

// P1.2: texts, those of MaxText bytes and of one more, and those that are refused.
func TestWriteTexts(t *testing.T) {
	for _, c := range []struct{ text, want string }{
		{"", "\x00\x00"},
		{"a", "\x00\x01a"},
		{"a\x00", "\x00\x03a\xc0\x80"},
		{"\U00010000", "\x00\x06\xed\xa0\x80\xed\xb0\x80"},
		{strings.Repeat("x", 255), "\x00\xff" + strings.Repeat("x", 255)},
		{strings.Repeat("x", 256), "\x01\x00" + strings.Repeat("x", 256)},
		{strings.Repeat("x", 257), "\x00\x00"},
		{strings.Repeat("\x00", 128), "\x01\x00" + strings.Repeat("\xc0\x80", 128)},
		{strings.Repeat("\x00", 129), "\x00\x00"},
		{strings.Repeat("\U00010000", 43), "\x00\x00"},
		{strings.Repeat("x", 1<<16), "\x00\x00"},
		{strings.Repeat("x", 1<<16+1), "\x00\x00"},
		{"a\xff", "\x00\x00"},
		{"\xed\xa0\x80", "\x00\x00"},
	} {
		mustWrite(t, c.want, func(w *mutf.Writer) { w.Text(c.text) })
	}
}

// P1.2: bytes, and one thing behind the other.
func TestWriteAll(t *testing.T) {
	mustWrite(t, "", func(w *mutf.Writer) {})
	mustWrite(t, "", func(w *mutf.Writer) { w.Bytes(nil); w.Bytes([]byte{}) })
	mustWrite(t, "\x00\xff\xc0", func(w *mutf.Writer) { w.Bytes([]byte{0, 255, 192}) })
	long := strings.Repeat("\x00y", 500)
	mustWrite(t, long, func(w *mutf.Writer) { w.Bytes([]byte(long)) })
	mustWrite(t, "\x01\x00\x01b\x00\x00\x02\x03\x04\x05", func(w *mutf.Writer) {
		w.Number(1, 1)
		w.Text("b")
		w.Text("\xff")
		w.Bytes([]byte{2, 3})
		w.Number(0x0405, 2)
	})
}

// R2: Done's answers and what was handed in are nobody else's.
func TestWriterShares(t *testing.T) {
	in := []byte("abcd")
	w := mutf.NewWriter()
	w.Bytes(in[:2])
	w.Number('x', 1)
	if string(in) != "abcd" {
		t.Errorf("changed to %q", in)
	}
	in[0] = 'z'
	first, second := w.Done(), w.Done()
	room := first[:cap(first)]
	for i := range room {
		room[i] = '!'
	}
	w.Number('y', 1)
	if string(second) != "abx" || string(w.Done()) != "abxy" {
		t.Errorf("%q, %q", second, w.Done())
	}
	if !bytes.Equal(room, bytes.Repeat([]byte("!"), len(room))) {
		t.Errorf("an answer changed to %q", room)
	}
}

// R9: two Writers know nothing of one another.
func TestTwoWriters(t *testing.T) {
	a, b := mutf.NewWriter(), mutf.NewWriter()
	a.Text("a")
	b.Text("b")
	if string(a.Done()) != "\x00\x01a" || string(b.Done()) != "\x00\x01b" {
		t.Errorf("%x, %x", a.Done(), b.Done())
	}
}
