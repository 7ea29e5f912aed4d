package code_test

import (
	"bytes"
	"math"
	"math/rand"
	"slices"
	"strings"
	"testing"

	"carafe/api"
	"carafe/code"
)

// signed is what a number of that many bits says with its sign.
func signed(n, bits int) int {
	if n >= 1<<(bits-1) {
		return n - 1<<bits
	}
	return n
}

// said says anew how P5.2 reads one instruction that is whole.
func said(asks, at int, b string) api.Inst {
	i := api.Inst{At: at, Op: int(b[0])}
	first, both := 0, 0
	if len(b) > 1 {
		first = int(b[1])
	}
	if len(b) > 2 {
		both = first*256 + int(b[2])
	}
	switch asks {
	case signedByte:
		i.A = signed(first, 8)
	case plainByte:
		i.A = first
	case signedPair:
		i.A = signed(both, 16)
	case plainPair:
		i.A = both
	case twoBytes:
		i.A, i.B = first, signed(int(b[2]), 8)
	case target:
		i.A = at + signed(both, 16)
	}
	return i
}

// decoded says anew how P5.2 reads.
func decoded(b string) ([]api.Inst, api.Errno, int) {
	if len(b) > 1024 {
		return nil, api.ErrLong, 0
	}
	var l []api.Inst
	for at := 0; at < len(b); {
		o, ok := known[int(b[at])]
		if !ok {
			return nil, api.ErrOp, at
		}
		end := at + size(o.asks)
		if end > len(b) {
			return nil, api.ErrEnd, at
		}
		l = append(l, said(o.asks, at, b[at:end]))
		at = end
	}
	return l, api.OK, 0
}

// between is what A and B of an instruction at at may be.
func between(asks, at int) (lowA, highA, lowB, highB int) {
	switch asks {
	case signedByte:
		return -128, 127, 0, 0
	case plainByte:
		return 0, 255, 0, 0
	case signedPair:
		return -32768, 32767, 0, 0
	case plainPair:
		return 0, 65535, 0, 0
	case twoBytes:
		return 0, 255, -128, 127
	case target:
		return at - 32768, at + 32767, 0, 0
	}
	return 0, 0, 0, 0
}

// refusal says anew what P5.3 refuses of a list.
func refusal(l []api.Inst) api.Errno {
	end := 0
	for _, i := range l {
		o, ok := known[i.Op]
		lowA, highA, lowB, highB := between(o.asks, i.At)
		switch {
		case !ok:
			return api.ErrOp
		case i.At != end:
			return api.ErrTarget
		case i.A < lowA || i.A > highA || i.B < lowB || i.B > highB:
			return api.ErrArg
		}
		end += size(o.asks)
	}
	if end > 1024 {
		return api.ErrLong
	}
	return api.OK
}

// mustCome holds that b is read as l, and l written as b.
func mustCome(t *testing.T, b string, l []api.Inst) {
	t.Helper()
	if got, why, at := code.Decode([]byte(b)); why != api.OK || at != 0 || !slices.Equal(got, l) {
		t.Errorf("Decode(%.60x): %.200v, %v at %d, want %.200v", b, got, why, at, l)
	}
	if got, why := code.Encode(l); why != api.OK || string(got) != b {
		t.Errorf("Encode(%.200v): %.60x, %v, want %.60x", l, got, why, b)
	}
}

// mustNotRead holds that b is refused, with nothing beside.
func mustNotRead(t *testing.T, b string, want api.Errno, place int) {
	t.Helper()
	if l, why, at := code.Decode([]byte(b)); why != want || at != place || len(l) > 0 {
		t.Errorf("Decode(%.60x): %.200v, %v at %d, want %v at %d", b, l, why, at, want, place)
	}
}

// mustNotWrite holds that l is refused, with nothing beside.
func mustNotWrite(t *testing.T, l []api.Inst, want api.Errno) {
	t.Helper()
	if b, why := code.Encode(l); why != want || len(b) > 0 {
		t.Errorf("Encode(%.200v): %.60x, %v, want %v", l, b, why, want)
	}
}

// mustRead holds Decode against what is said anew, and what it reads comes back.
func mustRead(t *testing.T, b string) {
	t.Helper()
	l, why, at := decoded(b)
	if why != api.OK {
		mustNotRead(t, b, why, at)
		return
	}
	mustCome(t, b, l)
}

// mustWrite holds Encode against what is said anew, and what it writes comes back.
func mustWrite(t *testing.T, l []api.Inst) {
	t.Helper()
	if want := refusal(l); want != api.OK {
		mustNotWrite(t, l, want)
		return
	}
	b, why := code.Encode(l)
	if why != api.OK {
		t.Errorf("Encode(%.200v): %v", l, why)
		return
	}
	mustCome(t, string(b), l)
}

// nops are n of them.
func nops(n int) []api.Inst {
	l := make([]api.Inst, n)
	for at := range l {
		l[at].At = at
	}
	return l
}

func zeros(n int) string { return strings.Repeat("\x00", n) }

// P5.2, P5.3, P5.4: the runs, the examples, and one of each kind.
func TestRuns(t *testing.T) {
	for b, l := range map[string][]api.Inst{
		"":                             nil,
		"\x10\xff\xa7\xff\xfe":         {{Op: api.Push1, A: -1}, {At: 2, Op: api.Goto}},
		"\xa7\xff\xfd":                 {{Op: api.Goto, A: -3}},
		"\x00\x00\xc7\xff\xfb":         {{}, {At: 1}, {At: 2, Op: api.IfSome, A: -3}},
		"\x10\x7f\x10\x80":             {{Op: api.Push1, A: 127}, {At: 2, Op: api.Push1, A: -128}},
		"\x11\x01\x02\x11\x80\x00":     {{Op: api.Push2, A: 258}, {At: 3, Op: api.Push2, A: -32768}},
		"\x12\xff\x15\x80\xbc\x0a":     {{Op: api.Ldc, A: 255}, {At: 2, Op: api.ILoad, A: 128}, {At: 4, Op: api.NewInts, A: 10}},
		"\x84\xff\x80\x84\x01\x7f":     {{Op: api.Inc, A: 255, B: -128}, {At: 3, Op: api.Inc, A: 1, B: 127}},
		"\xb2\xff\xff\xc1\x01\x02\xb1": {{Op: api.GetStatic, A: 65535}, {At: 3, Op: api.IsA, A: 258}, {At: 6, Op: api.Return}},
	} {
		mustCome(t, b, l)
	}
	mustNotRead(t, "\x10", api.ErrEnd, 0)
	mustNotRead(t, "\xff", api.ErrOp, 0)
	mustNotWrite(t, []api.Inst{{Op: api.Inc, A: 256}}, api.ErrArg)
}

// P5.2, P5.4: each operation with each two bytes behind it, first and behind another.
func TestEachOperand(t *testing.T) {
	for op, o := range known {
		n := 1 << (8 * (size(o.asks) - 1))
		for x := range n {
			b := string([]byte{byte(op), byte(x >> 8), byte(x)})
			if n == 256 {
				b = string([]byte{byte(op), byte(x)})
			}
			b = b[:size(o.asks)]
			mustCome(t, b, []api.Inst{said(o.asks, 0, b)})
			mustCome(t, "\xb1"+b, []api.Inst{{Op: api.Return}, said(o.asks, 1, b)})
			if t.Failed() {
				return
			}
		}
	}
}

// P5.2, P5.4: all lists of one and of two bytes, each byte behind others, and each cut of each instruction.
func TestShortBytes(t *testing.T) {
	for x := range 256 {
		one := string([]byte{byte(x)})
		mustRead(t, one)
		for _, ahead := range []string{"\x00", "\x10\xff", "\xa7\xff\xff", zeros(1023), zeros(1022), zeros(1021)} {
			mustRead(t, ahead+one)
			mustRead(t, ahead+one+"\x01")
			mustRead(t, ahead+one+"\x01\x02")
		}
		for y := range 256 {
			mustRead(t, one+string([]byte{byte(y)}))
		}
	}
}

// P5.2: what is refused, and where: the first place of several.
func TestDecodeRefuses(t *testing.T) {
	for b, want := range map[string]struct {
		why api.Errno
		at  int
	}{
		"\x09":                       {api.ErrOp, 0},
		"\x00\x09":                   {api.ErrOp, 1},
		"\x10\x09\xb7":               {api.ErrOp, 2},
		"\xa7\x09\x09\xc8":           {api.ErrOp, 3},
		"\xff\x10":                   {api.ErrOp, 0},
		"\x00\x10":                   {api.ErrEnd, 1},
		"\xa7":                       {api.ErrEnd, 0},
		"\xa7\xff":                   {api.ErrEnd, 0},
		"\x00\xa7\xff":               {api.ErrEnd, 1},
		"\x84\x09":                   {api.ErrEnd, 0},
		zeros(1023) + "\x10":         {api.ErrEnd, 1023},
		zeros(1022) + "\xb2\x00":     {api.ErrEnd, 1022},
		zeros(1023) + "\xff":         {api.ErrOp, 1023},
		zeros(1025):                  {api.ErrLong, 0},
		"\xff" + zeros(1024):         {api.ErrLong, 0},
		zeros(1024) + "\x10":         {api.ErrLong, 0},
		zeros(1022) + "\xb2\x00\x00": {api.ErrLong, 0},
		zeros(1 << 17):               {api.ErrLong, 0},
	} {
		mustNotRead(t, b, want.why, want.at)
	}
}

// P5.2, P5.3: as many bytes as there may be.
func TestMaxCode(t *testing.T) {
	mustCome(t, zeros(1024), nops(1024))
	mustCome(t, zeros(1022)+"\x10\x80", append(nops(1022), api.Inst{At: 1022, Op: api.Push1, A: -128}))
	mustCome(t, zeros(1021)+"\xa7\x80\x00", append(nops(1021), api.Inst{At: 1021, Op: api.Goto, A: 1021 - 32768}))
	mustCome(t, zeros(1021)+"\xa7\x7f\xff", append(nops(1021), api.Inst{At: 1021, Op: api.Goto, A: 1021 + 32767}))
	mustNotWrite(t, nops(1025), api.ErrLong)
	mustNotWrite(t, nops(70000), api.ErrLong)
	mustNotWrite(t, append(nops(1023), api.Inst{At: 1023, Op: api.Push1}), api.ErrLong)
	mustNotWrite(t, append(nops(1022), api.Inst{At: 1022, Op: api.Push2}), api.ErrLong)
}

// edges are numbers around those that fit somewhere, and those whose lowest bytes would.
func edges(at int) []int {
	l := []int{math.MinInt, math.MinInt + 1, math.MinInt + 32767, math.MaxInt, math.MaxInt - 1, math.MaxInt - 32767}
	for _, n := range []int{0, 1 << 7, 1 << 8, 1 << 15, 1 << 16, 1 << 24, 1 << 31, 1 << 32, 1 << 48, 1 << 62} {
		for _, d := range []int{-1, 0, 1} {
			l = append(l, n+d, -n+d, at+n+d, at-n+d)
		}
	}
	return l
}

// mustFit holds one operation behind nops against what is said anew, with numbers at the edges.
func mustFit(t *testing.T, op, at int) {
	t.Helper()
	l := append(nops(at), api.Inst{})
	for _, n := range edges(at) {
		for _, pair := range [][2]int{{n, 0}, {0, n}, {at, n}, {n, 1}, {n, n}} {
			l[at] = api.Inst{At: at, Op: op, A: pair[0], B: pair[1]}
			mustWrite(t, l)
		}
	}
}

// P5.3: each operation at the beginning, and one of each kind further on too, up to where there are too many bytes.
func TestEncodeFits(t *testing.T) {
	for op := range known {
		mustFit(t, op, 0)
		mustFit(t, op, 2)
	}
	for _, op := range []int{api.Return, api.Push1, api.ILoad, api.Push2, api.Virtual, api.Inc, api.Goto, api.IfNull} {
		mustFit(t, op, 1021)
		mustFit(t, op, 1024)
	}
}

// P5.3: At is where the ones ahead end, whatever they are.
func TestEncodePlaces(t *testing.T) {
	for op, o := range known {
		for _, at := range edges(size(o.asks)) {
			want := api.ErrTarget
			if at == size(o.asks) {
				want = api.OK
			}
			if _, why := code.Encode([]api.Inst{{Op: op}, {At: at}}); why != want {
				t.Errorf("Encode of %s, and one at %d: %v", o.name, at, why)
			}
			if at != 0 {
				mustNotWrite(t, []api.Inst{{At: at, Op: op, A: at}}, api.ErrTarget)
			}
		}
	}
}

// P5.3: of several refusals of one instruction the first that is named; of several instructions the first; and ErrLong behind all.
func TestOrderOfRefusals(t *testing.T) {
	wrong := map[api.Errno][]api.Inst{
		api.ErrOp:     {{Op: 9}, {At: 1, Op: 256}, {At: -1, Op: -1, A: 7}, {Op: math.MaxInt, B: 7}, {At: 5, Op: math.MinInt, A: 7, B: 7}, {Op: 183, A: -1}},
		api.ErrTarget: {{At: 1}, {At: -1, A: 1}, {At: 1, Op: api.Goto, A: 70000}, {At: 2, Op: api.Inc, A: 256, B: 128}, {At: 1, Op: api.Ldc, B: 1}},
		api.ErrArg:    {{A: 1}, {B: 1}, {Op: api.Goto, A: -70000}, {Op: api.Ldc, A: -1}, {Op: api.Inc, B: -129}},
	}
	for _, ahead := range []int{0, 1, 1023, 1024, 1025, 3000} {
		for why, l := range wrong {
			for _, i := range l {
				i.At += ahead
				mustNotWrite(t, append(nops(ahead), i), why)
				for _, others := range wrong {
					for _, other := range others {
						mustNotWrite(t, append(nops(ahead), i, other), why)
					}
				}
			}
		}
	}
}

// W6: lists and bytes that are mostly right, by the thousand.
func TestMany(t *testing.T) {
	r := rand.New(rand.NewSource(5))
	var ops []int
	for op := range 256 {
		if code.Size(op) > 0 {
			ops = append(ops, op)
		}
	}
	for range 3000 {
		var b []byte
		for n := r.Intn(1100); len(b) < n; {
			b = append(b, byte(ops[r.Intn(len(ops))]), byte(r.Intn(256)), byte(r.Intn(256)))
			b = b[:len(b)-3+code.Size(int(b[len(b)-3]))]
		}
		mustRead(t, string(b))
		l, why, _ := code.Decode(b)
		if why != api.OK || len(l) == 0 {
			continue
		}
		b[r.Intn(len(b))] = byte(r.Intn(256))
		mustRead(t, string(b))
		mustRead(t, string(b[:r.Intn(len(b))]))
		i := &l[r.Intn(len(l))]
		*[]*int{&i.At, &i.Op, &i.A, &i.B}[r.Intn(4)] += r.Intn(600) - 300
		mustWrite(t, l)
		if t.Failed() {
			return
		}
	}
}

// P5.4, W6: whatever the bytes.
func FuzzBytes(f *testing.F) {
	for _, s := range []string{"", "\x10", "\xff", "\x10\xff\xa7\xff\xfe", "\x84\xff\x80\xb1", "\xb2\x00\x00\xb6\x01\x02\xac", zeros(1024), zeros(1025)} {
		f.Add([]byte(s))
	}
	f.Fuzz(func(t *testing.T, b []byte) { mustRead(t, string(b)) })
}

// R2, R5: what is handed in stays as it is, and what is behind a list's length is neither read nor written.
func TestLeavesWhatIsGiven(t *testing.T) {
	b := []byte("\x10\xff\xa7\xff\xfe\x09\x09\x09")
	was := bytes.Clone(b)
	l, why, _ := code.Decode(b[:5])
	if why != api.OK || !bytes.Equal(b, was) {
		t.Errorf("%v, changed to %x", why, b)
	}
	mustNotRead(t, string(b), api.ErrOp, 5)
	if _, why, at := code.Decode(b[:1]); why != api.ErrEnd || at != 0 {
		t.Errorf("read behind the length: %v at %d", why, at)
	}
	more := append(slices.Clip(l), api.Inst{At: 9, Op: 9})
	kept := slices.Clone(more)
	if x, why := code.Encode(more[:2]); why != api.OK || string(x) != string(b[:5]) || !slices.Equal(more, kept) {
		t.Errorf("%x, %v, changed to %v", x, why, more)
	}
}

// R2: answers are new memory, their spare room too: what is done to one shows in no other.
func TestAnswersAreNew(t *testing.T) {
	in := "\x10\xff\xa7\xff\xfe"
	want := []api.Inst{{Op: api.Push1, A: -1}, {At: 2, Op: api.Goto}}
	l, _, _ := code.Decode([]byte(in))
	b, _ := code.Encode(l)
	spoilt, _, _ := code.Decode([]byte(in))
	for i := range spoilt[:cap(spoilt)] {
		spoilt[:cap(spoilt)][i] = api.Inst{Op: 99}
	}
	bad, _ := code.Encode(l)
	for i := range bad[:cap(bad)] {
		bad[:cap(bad)][i] = 99
	}
	if !slices.Equal(l, want) || string(b) != in {
		t.Errorf("answers share memory: %v, %x", l, b)
	}
	mustCome(t, in, want)
}

// R4: nil and empty lists mean the same.
func TestNothing(t *testing.T) {
	for _, b := range [][]byte{nil, {}} {
		if l, why, at := code.Decode(b); len(l) != 0 || why != api.OK || at != 0 {
			t.Errorf("Decode of nothing: %v, %v at %d", l, why, at)
		}
	}
	for _, l := range [][]api.Inst{nil, {}} {
		if b, why := code.Encode(l); len(b) != 0 || why != api.OK {
			t.Errorf("Encode of nothing: %x, %v", b, why)
		}
	}
}
