package mutf

import (
	"slices"

	"carafe/api"
)

// Writer gathers bytes.
type Writer struct {
	done []byte
}

// NewWriter makes a Writer that has nothing yet.
func NewWriter() *Writer {
	return &Writer{}
}

// Number writes the lowest bytes of n, the highest of them first.
func (w *Writer) Number(n int64, bytes int) {
	for i := width(bytes) - 1; i >= 0; i-- {
		w.done = append(w.done, byte(n>>(8*i)))
	}
}

// Text writes how many bytes s has when it is encoded, and these. A text that may not be is written as an empty one.
func (w *Writer) Text(s string) {
	b, why := Encode(s)
	if why != api.OK || len(b) > api.MaxText {
		b = nil
	}
	w.Number(int64(len(b)), 2)
	w.Bytes(b)
}

// Bytes writes b.
func (w *Writer) Bytes(b []byte) {
	w.done = append(w.done, b...)
}

// Done answers a copy of all that is written so far: the Writer may go on.
func (w *Writer) Done() []byte {
	return slices.Clone(w.done)
}
