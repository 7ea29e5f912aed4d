package pool

import (
	"carafe/api"
	"carafe/mutf"
)

// texts is how many of Class, Name and Desc, from the first on, an entry of that kind has in bytes; false of a kind that is none.
// What refers to a member has what refers to its class, and more: so one kind falls through to the next.
func texts(kind int) (int, bool) {
	n := 0
	switch kind {
	case api.ConstField, api.ConstMethod:
		n += 2
		fallthrough
	case api.ConstClass:
		n++
		fallthrough
	case api.ConstInt:
		return n, true
	}
	return 0, false
}

// Write writes l. All of l is asked ahead of the first byte, so that a refusal leaves w as it was.
func Write(w *mutf.Writer, l []api.Const) api.Errno {
	if w == nil {
		return api.ErrArg
	}
	if len(l) > api.MaxPool {
		return api.ErrMany
	}
	for _, c := range l {
		if !Right(c) {
			return api.ErrRef
		}
	}
	w.Number(int64(len(l)), 2)
	for _, c := range l {
		writeEntry(w, c)
	}
	return api.OK
}

func writeEntry(w *mutf.Writer, c api.Const) {
	w.Number(int64(c.Kind), 1)
	n, _ := texts(c.Kind)
	if n == 0 {
		w.Number(int64(c.N), 4)
	}
	parts := [3]string{c.Class, c.Name, c.Desc}
	for _, s := range parts[:n] {
		w.Text(s)
	}
}

// Read reads what Write writes; nothing, if r refuses, or refused ahead of it.
func Read(r *mutf.Reader) []api.Const {
	if r == nil {
		return nil
	}
	n := int(r.Number(2))
	if n > api.MaxPool {
		r.Fail(api.ErrMany)
	}
	var l []api.Const
	for len(l) < n && !refused(r) {
		l = append(l, readEntry(r))
	}
	if refused(r) {
		return nil
	}
	return l
}

// readEntry fails r where the entry is none. What it answers beside a refusal has no meaning.
func readEntry(r *mutf.Reader) api.Const {
	c := api.Const{Kind: int(r.Number(1))}
	n, known := texts(c.Kind)
	if !known {
		r.Fail(api.ErrForm)
		return c
	}
	if n == 0 {
		c.N = int32(r.Number(4))
	}
	parts := [3]*string{&c.Class, &c.Name, &c.Desc}
	for _, s := range parts[:n] {
		*s = r.Text()
	}
	if !Right(c) {
		r.Fail(api.ErrRef)
	}
	return c
}

// refused tells a refusal from bytes that are only left to be read by others: behind a refusal none are left.
func refused(r *mutf.Reader) bool {
	why, _ := r.End()
	return why != api.OK && r.Left() == 0
}
