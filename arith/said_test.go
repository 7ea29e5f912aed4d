package arith_test

import (
	"math"

	"carafe/api"
)

// said is what is answered of two numbers, in numbers wide enough that nothing wraps on the way.
type said struct {
	n   int64
	why api.Errno
}

// wrapped is n modulo 2^32, between -2^31 and 2^31 - 1.
func wrapped(n int64) said {
	n %= 1 << 32
	if n < -(1 << 31) {
		n += 1 << 32
	}
	if n > 1<<31-1 {
		n -= 1 << 32
	}
	return said{n: n}
}

// plain is n modulo 2^32, at least 0.
func plain(n int64) int64 {
	if n < 0 {
		return n + 1<<32
	}
	return n
}

// size is how far n is from 0.
func size(n int64) int64 {
	if n < 0 {
		return -n
	}
	return n
}

// power is 2 as often as the lowest five bits of b say.
func power(b int64) int64 {
	p := int64(1)
	for range plain(b) % 32 {
		p *= 2
	}
	return p
}

// below is the greatest number that is not above a / p.
func below(a, p int64) int64 {
	n := a / p
	if n*p > a {
		n--
	}
	return n
}

// bits holds a and b bit by bit against each other: is says of how many ones a bit comes.
func bits(a, b int64, is func(ones int64) bool) said {
	a, b = plain(a), plain(b)
	n := int64(0)
	for p := int64(1); p < 1<<32; p *= 2 {
		if is(a/p%2 + b/p%2) {
			n += p
		}
	}
	return wrapped(n)
}

// quotient and the rest that it leaves, by how far a and b are from 0, with the signs set behind.
func quotient(a, b int64) (said, said) {
	if b == 0 {
		return said{why: api.ErrNone}, said{why: api.ErrNone}
	}
	q, m := size(a)/size(b), size(a)%size(b)
	if (a < 0) != (b < 0) {
		q = -q
	}
	if a < 0 {
		m = -m
	}
	return wrapped(q), wrapped(m)
}

// two says anew what P12.1 asks of Two.
func two(op int, a, b int64) said {
	q, m := quotient(a, b)
	switch op {
	case 96:
		return wrapped(a + b)
	case 100:
		return wrapped(a - b)
	case 104:
		return wrapped(a * b)
	case 108:
		return q
	case 112:
		return m
	case 120:
		return wrapped(a * power(b))
	case 122:
		return wrapped(below(a, power(b)))
	case 124:
		return wrapped(plain(a) / power(b))
	case 126:
		return bits(a, b, func(ones int64) bool { return ones == 2 })
	case 128:
		return bits(a, b, func(ones int64) bool { return ones > 0 })
	case 130:
		return bits(a, b, func(ones int64) bool { return ones == 1 })
	}
	return said{why: api.ErrOp}
}

// one says anew what P12.1 asks of One.
func one(op int, a int64) said {
	if op == 116 {
		return wrapped(-a)
	}
	return said{why: api.ErrOp}
}

// test says anew what P12.1 asks of Test: which signs of the distance take the branch.
func test(op int, a, b int64) (bool, api.Errno) {
	far := a
	if op >= 159 {
		far = a - b
	}
	switch op {
	case 153, 159:
		return far == 0, api.OK
	case 154, 160:
		return far != 0, api.OK
	case 155, 161:
		return far < 0, api.OK
	case 156, 162:
		return far >= 0, api.OK
	case 157, 163:
		return far > 0, api.OK
	case 158, 164:
		return far <= 0, api.OK
	}
	return false, api.ErrOp
}

// constant says anew what P12.2 asks of Const; what of A has no room wraps.
func constant(i api.Inst) (int64, bool) {
	own := map[int]int64{2: -1, 3: 0, 4: 1, 5: 2, 6: 3, 7: 4, 8: 5}
	if n, ok := own[i.Op]; ok {
		return n, true
	}
	if i.Op == 16 || i.Op == 17 {
		return wrapped(int64(i.A)).n, true
	}
	return 0, false
}

// edges are numbers around the powers of 2, and those around 0 by which shifts and quotients differ.
func edges() []int32 {
	var l []int32
	for n := int32(-70); n <= 70; n++ {
		l = append(l, n)
	}
	for p := range 32 {
		for d := int32(-1); d <= 1; d++ {
			l = append(l, int32(1)<<p+d, -(int32(1)<<p)+d)
		}
	}
	return append(l, math.MinInt32+2, math.MaxInt32-2, 0x55555555, -0x55555556, 0x33333333, 0x0f0f0f0f, 123456789, -987654321, 46340, 46341, -46341)
}

// ops are all numbers that might be taken for an operation: those of api, those between and around, and those that only have an operation's lowest bits.
func ops() []int {
	l := []int{math.MinInt, math.MinInt + 1, math.MaxInt - 1, math.MaxInt}
	for op := -600; op <= 1200; op++ {
		l = append(l, op)
	}
	for op := range 256 {
		for _, far := range []int{1 << 16, 1 << 31, 1 << 32, 1 << 62} {
			l = append(l, op+far, op-far, ^(op + far))
		}
	}
	return l
}
