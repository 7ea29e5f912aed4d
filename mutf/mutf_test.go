package mutf_test

import (
	"bytes"
	"strings"
	"testing"
	"unicode/utf16"
	"unicode/utf8"

	"carafe/api"
	"carafe/mutf"
)

// three writes a code by three bytes, whether it needs them or not.
func three(c int) string {
	return string([]byte{byte(0xe0 + c/4096), byte(0x80 + c/64%64), byte(0x80 + c%64)})
}

// written says anew how a rune is written, by the table of P1.1.
func written(r rune) string {
	switch {
	case r == 0:
		return "\xc0\x80"
	case r < 0x10000:
		return string(r) // as in plain UTF-8
	}
	high, low := utf16.EncodeRune(r)
	return three(int(high)) + three(int(low))
}

func mustEncode(t *testing.T, s, want string) {
	t.Helper()
	if b, why := mutf.Encode(s); string(b) != want || why != api.OK {
		t.Errorf("Encode(%q): %x, %v, want %x", s, b, why, want)
	}
}

func mustDecode(t *testing.T, b, want string) {
	t.Helper()
	if s, why := mutf.Decode([]byte(b)); s != want || why != api.OK {
		t.Errorf("Decode(%x): %q, %v, want %q", b, s, why, want)
	}
}

func mustRefuse(t *testing.T, b string) {
	t.Helper()
	if s, why := mutf.Decode([]byte(b)); s != "" || why != api.ErrForm {
		t.Errorf("Decode(%x): %q, %v, want ErrForm", b, s, why)
	}
}

// P1.1, P1.4: the runs, the examples, and both sides of each border.
func TestTexts(t *testing.T) {
	for _, c := range []struct{ text, bytes string }{
		{"", ""},
		{"\x00", "\xc0\x80"},
		{"\x01", "\x01"},
		{"a", "a"},
		{"\x7f", "\x7f"},
		{"\u0080", "\xc2\x80"},
		{"\u07ff", "\xdf\xbf"},
		{"\u0800", "\xe0\xa0\x80"},
		{"\ud7ff", "\xed\x9f\xbf"},
		{"\ue000", "\xee\x80\x80"},
		{"\ufffd", "\xef\xbf\xbd"}, // a rune as others, though Go marks faults by it
		{"\uffff", "\xef\xbf\xbf"},
		{"\U00010000", "\xed\xa0\x80\xed\xb0\x80"},
		{"\U000103ff", "\xed\xa0\x80\xed\xbf\xbf"},
		{"\U00010400", "\xed\xa0\x81\xed\xb0\x80"},
		{"\U0010ffff", "\xed\xaf\xbf\xed\xbf\xbf"},
		{"java/lang/Object", "java/lang/Object"},
		{"a\x00é\U0001f600z", "a\xc0\x80\xc3\xa9\xed\xa0\xbd\xed\xb8\x80z"},
	} {
		mustEncode(t, c.text, c.bytes)
		mustDecode(t, c.bytes, c.text)
	}
}

// P1.1, P1.4: each rune, alone and between others.
func TestEachRune(t *testing.T) {
	for r := rune(0); r <= utf8.MaxRune; r++ {
		if !utf8.ValidRune(r) {
			continue
		}
		mustEncode(t, string(r), written(r))
		mustDecode(t, written(r), string(r))
		mustEncode(t, "\x00"+string(r)+"a", "\xc0\x80"+written(r)+"a")
		mustDecode(t, "\xc0\x80"+written(r)+"a", "\x00"+string(r)+"a")
		if t.Failed() {
			return
		}
	}
}

// P1.1: no limit stands on Encode and Decode themselves.
func TestLongText(t *testing.T) {
	s := strings.Repeat("\x00", 1<<17)
	b := strings.Repeat("\xc0\x80", 1<<17)
	mustEncode(t, s, b)
	mustDecode(t, b, s)
}

// P1.1: what is not valid UTF-8.
func TestEncodeRefuses(t *testing.T) {
	for _, s := range []string{"\xff", "a\xff", "\xffa", "\x80", "\xc2", "\xc0\x80", "\xe0\x80\x80", "\xed\xa0\x80", "\xed\xa0\x80\xed\xb0\x80", "\xf4\x90\x80\x80", "\xf0\x90\x80"} {
		if b, why := mutf.Encode(s); len(b) != 0 || why != api.ErrForm {
			t.Errorf("Encode(%q): %x, %v, want ErrForm", s, b, why)
		}
	}
}

// P1.1: what Encode makes of no text.
func TestDecodeRefuses(t *testing.T) {
	for _, b := range []string{
		"\x00", "a\x00", "\x00a", // 0 by one byte
		"\xc1\x81", "\xc0\x81", "\xc1\xbf", "\xe0\x80\x80", "\xe0\x81\x81", "\xe0\x9f\xbf", // longer than need be
		"\xf0\x90\x80\x80", "\xf4\x8f\xbf\xbf", "\xf8\x88\x80\x80\x80", "\xfe", "\xff", // no such first byte
		"\x80", "\xbf", "a\x80", "\xc2\x80\x80", // nothing ahead
		"\xc0", "\xc2", "\xe0", "\xe0\xa0", "a\xc0", "\xed\xa0\x80\xed\xb0", // cut off
		"\xc2a", "\xc2\xc2", "\xe0a\x80", "\xe0\xa0a", "\xe0\xa0\xc0", "\xc2\x00", // nothing behind
		"\xed\xa0\x80", "\xed\xb0\x80", "\xed\xa0\x80a", "a\xed\xbf\xbf", // halves of pairs
		"\xed\xa0\x80\xed\xa0\x80", "\xed\xb0\x80\xed\xa0\x80", "\xed\xb0\x80\xed\xb0\x80",
		"\xed\xa0\x80\xc0\x80\xed\xb0\x80", "\xed\xa0\x80\xed\xb0\x80\xed\xb0\x80",
	} {
		mustRefuse(t, b)
	}
}

// P1.1, P1.4: of all short lists of bytes just those are texts that Encode makes.
func TestDecodeTakesWhatEncodeMakes(t *testing.T) {
	made := map[string]string{}
	for r := rune(0); r <= 0xffff; r++ {
		if utf8.ValidRune(r) {
			made[written(r)] = string(r)
		}
	}
	try := func(b string, want string, ok bool) {
		if ok {
			mustDecode(t, b, want)
		} else {
			mustRefuse(t, b)
		}
	}
	for x := range 256 {
		one := string([]byte{byte(x)})
		s, ok := made[one]
		try(one, s, ok)
		for y := range 256 {
			two := string([]byte{byte(x), byte(y)})
			s, ok := made[two]
			if x >= 1 && x <= 0x7f && y >= 1 && y <= 0x7f {
				s, ok = two, true
			}
			try(two, s, ok)
		}
	}
	for c := range 0xffff + 1 {
		s, ok := made[three(c)]
		try(three(c), s, ok)
	}
	for x := range 256 {
		if x>>4 != 0xe { // only such a byte has two behind it
			try(string([]byte{byte(x), 0x80, 0x80}), "", false)
			try(string([]byte{byte(x), 0xa0, 0x80}), "", false)
			try(string([]byte{byte(x), 0xbf, 0xbf}), "", false)
		}
	}
}

// P1.1: two codes are one rune just where the first is a high half and the second a low one.
func TestPairs(t *testing.T) {
	codes := []int{0x800, 0xd7ff, 0xd800, 0xd801, 0xdbff, 0xdc00, 0xdc01, 0xdfff, 0xe000, 0xffff}
	half := func(c int) bool { return c >= 0xd800 && c <= 0xdfff }
	for _, x := range codes {
		for _, y := range codes {
			b := three(x) + three(y)
			switch {
			case !half(x) && !half(y):
				mustDecode(t, b, string(rune(x))+string(rune(y)))
			case half(x) && x < 0xdc00 && half(y) && y >= 0xdc00:
				mustDecode(t, b, string(utf16.DecodeRune(rune(x), rune(y))))
			default:
				mustRefuse(t, b)
			}
		}
	}
}

// P1.4: back and forth, whatever the bytes.
func FuzzBackAndForth(f *testing.F) {
	for _, s := range []string{"", "a", "\x00", "\xc0\x80", "\xed\xa0\x80\xed\xb0\x80", "\xed\xa0\x80", "\U0010ffff", "\xe0\xa0\x80\xff"} {
		f.Add([]byte(s))
	}
	f.Fuzz(func(t *testing.T, b []byte) {
		if s, why := mutf.Decode(b); why == api.OK {
			mustEncode(t, s, string(b))
		} else if s != "" || why != api.ErrForm {
			t.Errorf("Decode(%x): %q, %v", b, s, why)
		}
		x, why := mutf.Encode(string(b))
		if utf8.Valid(b) != (why == api.OK) {
			t.Errorf("Encode(%q): %v", b, why)
		}
		if why == api.OK {
			mustDecode(t, string(x), string(b))
		}
	})
}

// R2: what is handed in stays as it is, its spare room too.
func TestDecodeLeavesItsBytes(t *testing.T) {
	whole := []byte("a\xc0\x80b\xff\xff\xff\xff")
	was := bytes.Clone(whole)
	s, _ := mutf.Decode(whole[:4])
	if !bytes.Equal(whole, was) {
		t.Errorf("changed to %x", whole)
	}
	whole[0] = 'z'
	if s != "a\x00b" {
		t.Errorf("%q hangs on the bytes", s)
	}
}

// R4: nil and empty lists mean the same.
func TestNothing(t *testing.T) {
	if s, why := mutf.Decode(nil); s != "" || why != api.OK {
		t.Errorf("Decode(nil): %q, %v", s, why)
	}
	if b, why := mutf.Encode(""); len(b) != 0 || why != api.OK {
		t.Errorf("Encode of nothing: %x, %v", b, why)
	}
}
