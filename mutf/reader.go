package mutf

import (
	"slices"

	"carafe/api"
)

// Reader reads bytes from their beginning on. Once something is refused it stands still, so that its place is the refusal's.
type Reader struct {
	all []byte
	at  int
	why api.Errno
}

// NewReader makes a Reader of a copy of b.
func NewReader(b []byte) *Reader {
	return &Reader{all: slices.Clone(b)}
}

// take is the one way in which anything is read: the next n bytes, as a part of the Reader's own, or nothing.
func (r *Reader) take(n int) []byte {
	if r.why != api.OK || n <= 0 {
		return nil
	}
	if n > r.Left() {
		r.at = len(r.all)
		r.Fail(api.ErrEnd)
		return nil
	}
	r.at += n
	return r.all[r.at-n : r.at]
}

// Number reads that many bytes as a number without a sign, modulo 2^64.
func (r *Reader) Number(bytes int) int64 {
	n := int64(0)
	for _, c := range r.take(width(bytes)) {
		n = n<<8 | int64(c)
	}
	return n
}

// Text reads what a Writer's Text writes.
func (r *Reader) Text() string {
	n := r.Number(2)
	if n > api.MaxText {
		r.Fail(api.ErrLong)
	}
	s, why := Decode(r.take(int(n)))
	r.Fail(why)
	return s
}

// Bytes reads n of them.
func (r *Reader) Bytes(n int) []byte {
	return slices.Clone(r.take(n))
}

// Fail refuses at the place that is reached; OK refuses nothing, and the first refusal stays.
func (r *Reader) Fail(why api.Errno) {
	if r.why == api.OK {
		r.why = why
	}
}

// Left answers how many bytes are not read.
func (r *Reader) Left() int {
	if r.why != api.OK {
		return 0
	}
	return len(r.all) - r.at
}

// End answers the refusal and its place. Bytes that are left are told, but not refused for what is read later.
func (r *Reader) End() (api.Errno, int) {
	switch {
	case r.why != api.OK:
		return r.why, r.at
	case r.at < len(r.all):
		return api.ErrTail, r.at
	}
	return api.OK, 0
}
