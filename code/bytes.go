package code

import (
	"carafe/api"
)

// Decode answers the instructions whose bytes b are, or why there are none, and where.
func Decode(b []byte) ([]api.Inst, api.Errno, int) {
	if len(b) > api.MaxCode {
		return nil, api.ErrLong, 0
	}
	var l []api.Inst
	for at := 0; at < len(b); {
		size := Size(int(b[at]))
		switch {
		case size == 0:
			return nil, api.ErrOp, at
		case size > len(b)-at:
			return nil, api.ErrEnd, at
		}
		l = append(l, read(b[at:at+size], at))
		at += size
	}
	return l, api.OK, 0
}

// Encode answers the bytes of l.
func Encode(l []api.Inst) ([]byte, api.Errno) {
	var b []byte
	for _, i := range l {
		at := len(b)
		switch {
		case Size(i.Op) == 0:
			return nil, api.ErrOp
		case i.At != at:
			return nil, api.ErrTarget
		}
		b = write(b, i)
		if read(b[at:], at) != i { // what does not fit is not told by its bytes
			return nil, api.ErrArg
		}
	}
	if len(b) > api.MaxCode {
		return nil, api.ErrLong
	}
	return b, api.OK
}

// read answers the instruction at at whose bytes, all of them, b are.
func read(b []byte, at int) api.Inst {
	i := api.Inst{At: at, Op: int(b[0])}
	switch {
	case i.Op == api.Push1:
		i.A = int(int8(b[1]))
	case i.Op == api.Push2:
		i.A = int(int16(pair(b)))
	case i.Op == api.Inc:
		i.A, i.B = int(b[1]), int(int8(b[2]))
	case Branch(i.Op):
		i.A = at + int(int16(pair(b)))
	case len(b) == 2:
		i.A = int(b[1])
	case len(b) == 3:
		i.A = int(pair(b))
	}
	return i
}

// pair is the number of two bytes behind the operation.
func pair(b []byte) uint16 {
	return uint16(b[1])<<8 | uint16(b[2])
}

// write appends the bytes of i. Of A and B it keeps what there is room for: whether that is all of them, read tells.
func write(b []byte, i api.Inst) []byte {
	b = append(b, byte(i.Op))
	a := i.A
	if Branch(i.Op) {
		a -= i.At
	}
	switch {
	case i.Op == api.Inc:
		b = append(b, byte(a), byte(i.B))
	case Size(i.Op) == 2:
		b = append(b, byte(a))
	case Size(i.Op) == 3:
		b = append(b, byte(a>>8), byte(a))
	}
	return b
}
