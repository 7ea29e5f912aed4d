package classfile

import (
	"carafe/api"
	"carafe/mutf"
	"carafe/pool"
)

// head is what each class's bytes begin with: the mark and the version.
const head = "\xca\xfe\xba\xbe\x00\x01"

// Flags of a field and of a method.
const (
	flagStatic = 1
	flagNative = 2
)

// Encode answers the bytes of c.
func Encode(c api.Class) ([]byte, api.Errno) {
	if why := Right(c); why != api.OK {
		return nil, why
	}
	w := writer{mutf.NewWriter()}
	w.class(c)
	b := w.Done()
	if len(b) > api.MaxFile {
		return nil, api.ErrLong
	}
	return b, api.OK
}

// writer writes the parts of a class that is Right: so every number and text of it has room in its bytes.
type writer struct{ *mutf.Writer }

func (w writer) class(c api.Class) {
	w.Bytes([]byte(head))
	pool.Write(w.Writer, c.Pool)
	w.Text(c.Name)
	w.Text(c.Super)
	writeList(w, c.Fields, w.field)
	writeList(w, c.Methods, w.method)
}

func (w writer) field(f api.Field) {
	w.Text(f.Name)
	w.Text(f.Desc)
	w.byte(flag(f.Static, flagStatic))
}

func (w writer) method(m api.Method) {
	w.Text(m.Name)
	w.Text(m.Desc)
	w.byte(flag(m.Static, flagStatic) | flag(m.Native, flagNative))
	w.byte(m.Stack)
	w.byte(m.Locals)
	w.pair(len(m.Code))
	w.Bytes(m.Code)
	writeList(w, m.Handlers, w.handler)
	writeList(w, m.Frames, w.frame)
}

func (w writer) handler(h api.Handler) {
	w.pair(h.From)
	w.pair(h.To)
	w.pair(h.At)
	w.Text(h.Type)
}

func (w writer) frame(f api.Frame) {
	w.pair(f.At)
	writeList(w, f.Locals, w.Text)
	writeList(w, f.Stack, w.Text)
}

func (w writer) byte(n int) { w.Number(int64(n), 1) }

func (w writer) pair(n int) { w.Number(int64(n), 2) }

// writeList writes how many there are, and each by the method that writes one.
func writeList[T any](w writer, l []T, one func(T)) {
	w.byte(len(l))
	for _, x := range l {
		one(x)
	}
}

func flag(on bool, bit int) int {
	if on {
		return bit
	}
	return 0
}

// Decode answers the class whose bytes b are, or why there is none, and where.
func Decode(b []byte) (api.Class, api.Errno, int) {
	if len(b) > api.MaxFile {
		return api.Class{}, api.ErrLong, 0
	}
	r := reader{mutf.NewReader(b)}
	c := r.class()
	if why, at := r.End(); why != api.OK {
		return api.Class{}, why, at
	}
	if why := Right(c); why != api.OK {
		return api.Class{}, why, 0
	}
	return c, api.OK, 0
}

// reader reads the parts in the order in which they stand in the literals below. What it answers beside a refusal has no meaning.
type reader struct{ *mutf.Reader }

func (r reader) class() api.Class {
	if string(r.Bytes(len(head))) != head {
		r.Fail(api.ErrForm)
	}
	return api.Class{
		Pool:    pool.Read(r.Reader),
		Name:    r.Text(),
		Super:   r.Text(),
		Fields:  readList(r, r.field),
		Methods: readList(r, r.method),
	}
}

func (r reader) field() api.Field {
	f := api.Field{Name: r.Text(), Desc: r.Text()}
	f.Static = r.flags(flagStatic)&flagStatic != 0
	return f
}

func (r reader) method() api.Method {
	m := api.Method{Name: r.Text(), Desc: r.Text()}
	flags := r.flags(flagStatic | flagNative)
	m.Static, m.Native = flags&flagStatic != 0, flags&flagNative != 0
	m.Stack, m.Locals = r.byte(), r.byte()
	m.Code = r.Bytes(r.pair())
	m.Handlers = readList(r, r.handler)
	m.Frames = readList(r, r.frame)
	return m
}

func (r reader) handler() api.Handler {
	return api.Handler{From: r.pair(), To: r.pair(), At: r.pair(), Type: r.Text()}
}

func (r reader) frame() api.Frame {
	return api.Frame{At: r.pair(), Locals: readList(r, r.Text), Stack: readList(r, r.Text)}
}

// flags refuses what has bits beside those that are known.
func (r reader) flags(known int) int {
	n := r.byte()
	if n > known {
		r.Fail(api.ErrForm)
	}
	return n
}

func (r reader) byte() int { return int(r.Number(1)) }

func (r reader) pair() int { return int(r.Number(2)) }

// readList reads what writeList writes. It may go on behind a refusal: all numbers are 0 from there on, so that no list within another is left.
func readList[T any](r reader, one func() T) []T {
	var l []T
	for range r.byte() {
		l = append(l, one())
	}
	return l
}
