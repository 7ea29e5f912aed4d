// Package mutf: texts and numbers as bytes: see doc/01-mutf.md.
package mutf

import (
	"unicode/utf8"

	"carafe/api"
)

const (
	highHalf   = 0xd800  // the first of the codes that begin a pair
	lowHalf    = 0xdc00  // the first of the codes that end one
	behindHalf = 0xe000  // the first code that is no half any more
	beyond     = 0x10000 // the first rune that is written as a pair
)

// Encode writes s in modified UTF-8; ErrForm of what is not valid UTF-8.
func Encode(s string) ([]byte, api.Errno) {
	if !utf8.ValidString(s) {
		return nil, api.ErrForm
	}
	b := make([]byte, 0, len(s))
	for _, r := range s {
		b = appendRune(b, r)
	}
	return b, api.OK
}

func appendRune(b []byte, r rune) []byte {
	switch {
	case r >= 1 && r <= 0x7f:
		return append(b, byte(r))
	case r <= 0x7ff: // 0 too: so no text holds a byte 0
		return append(b, 0xc0|byte(r>>6), tail(r))
	case r < beyond:
		return appendThree(b, r)
	}
	b = appendThree(b, highHalf+((r-beyond)>>10))
	return appendThree(b, lowHalf+((r-beyond)&0x3ff))
}

func appendThree(b []byte, r rune) []byte {
	return append(b, 0xe0|byte(r>>12), tail(r>>6), tail(r))
}

// tail is the byte that carries r's lowest six bits behind a first one.
func tail(r rune) byte {
	return 0x80 | byte(r&0x3f)
}

// Decode reads what Encode writes; ErrForm of all else.
func Decode(b []byte) (string, api.Errno) {
	s := make([]byte, 0, len(b))
	for len(b) > 0 {
		r, size := firstRune(b)
		if size == 0 {
			return "", api.ErrForm
		}
		s = utf8.AppendRune(s, r)
		b = b[size:]
	}
	return string(s), api.OK
}

// firstRune answers the rune that b begins with and its size, which is 0 if there is none such.
func firstRune(b []byte) (rune, int) {
	r, size := firstCode(b)
	switch {
	case r < highHalf || r >= behindHalf:
		return r, size
	case r >= lowHalf:
		return 0, 0
	}
	low, more := firstCode(b[size:])
	if low < lowHalf || low >= behindHalf {
		return 0, 0
	}
	return beyond + (r-highHalf)<<10 + (low - lowHalf), size + more
}

// firstCode answers the code, a rune or half of a pair, that b begins with and its size, which is 0 if there is none such.
// What could be written shorter is none: two writings of one text would not come back as the bytes they were.
func firstCode(b []byte) (rune, int) {
	switch {
	case len(b) >= 1 && b[0] >= 1 && b[0] <= 0x7f:
		return rune(b[0]), 1
	case len(b) >= 2 && b[0]&0xe0 == 0xc0 && isTail(b[1]):
		if r := rune(b[0]&0x1f)<<6 | bits(b[1]); r == 0 || r > 0x7f {
			return r, 2
		}
	case len(b) >= 3 && b[0]&0xf0 == 0xe0 && isTail(b[1]) && isTail(b[2]):
		if r := rune(b[0]&0xf)<<12 | bits(b[1])<<6 | bits(b[2]); r > 0x7ff {
			return r, 3
		}
	}
	return 0, 0
}

func isTail(c byte) bool {
	return c&0xc0 == 0x80
}

// bits are the six that a tail byte carries.
func bits(c byte) rune {
	return rune(c & 0x3f)
}

// width brings how many bytes a number is to have between 1 and 8.
func width(bytes int) int {
	return min(max(bytes, 1), 8)
}
