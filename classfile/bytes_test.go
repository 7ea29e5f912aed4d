package classfile_test

import (
	"fmt"
	"reflect"
	"strings"
	"testing"

	"carafe/api"
	"carafe/classfile"
)

func b1(n int) string { return string([]byte{byte(n)}) }

func b2(n int) string { return b1(n>>8) + b1(n) }

func text(s string) string { return b2(len(s)) + s }

func bit(on bool, n int) int {
	if on {
		return n
	}
	return 0
}

// written says anew how P4.2 writes a class.
func written(c api.Class) string {
	s := "\xca\xfe\xba\xbe\x00\x01" + poolWritten(c.Pool) + text(c.Name) + text(c.Super) + b1(len(c.Fields))
	for _, f := range c.Fields {
		s += text(f.Name) + text(f.Desc) + b1(bit(f.Static, 1))
	}
	s += b1(len(c.Methods))
	for _, m := range c.Methods {
		s += text(m.Name) + text(m.Desc) + b1(bit(m.Static, 1)+bit(m.Native, 2)) + bodyWritten(m)
	}
	return s
}

func poolWritten(l []api.Const) string {
	s := b2(len(l))
	for _, c := range l {
		s += b1(c.Kind)
		switch c.Kind {
		case 3:
			s += b2(int(c.N)>>16) + b2(int(c.N))
		case 7:
			s += text(c.Class)
		default:
			s += text(c.Class) + text(c.Name) + text(c.Desc)
		}
	}
	return s
}

func bodyWritten(m api.Method) string {
	s := b1(m.Stack) + b1(m.Locals) + b2(len(m.Code)) + string(m.Code) + b1(len(m.Handlers))
	for _, h := range m.Handlers {
		s += b2(h.From) + b2(h.To) + b2(h.At) + text(h.Type)
	}
	s += b1(len(m.Frames))
	for _, f := range m.Frames {
		s += b2(f.At)
		for _, l := range [][]string{f.Locals, f.Stack} {
			s += b1(len(l))
			for _, x := range l {
				s += text(x)
			}
		}
	}
	return s
}

// same holds two classes against each other; nil and empty lists mean the same.
func same(c, d api.Class) bool { return reflect.DeepEqual(bare(c), bare(d)) }

// bare has nil for each empty list.
func bare(c api.Class) api.Class {
	c.Pool, c.Fields, c.Methods = none(c.Pool), none(c.Fields), none(c.Methods)
	for i, m := range c.Methods {
		m.Code, m.Handlers, m.Frames = none(m.Code), none(m.Handlers), none(m.Frames)
		for j, f := range m.Frames {
			m.Frames[j] = api.Frame{At: f.At, Locals: none(f.Locals), Stack: none(f.Stack)}
		}
		c.Methods[i] = m
	}
	return c
}

func none[T any](l []T) []T { return append([]T(nil), l...) }

// mustCome holds that c is written as want, and read from it.
func mustCome(t *testing.T, c api.Class, want string) {
	t.Helper()
	if b, why := classfile.Encode(c); why != api.OK || string(b) != want {
		t.Errorf("Encode: %v, %.300q, want %.300q", why, b, want)
	}
	if d, why, at := classfile.Decode([]byte(want)); why != api.OK || at != 0 || !same(c, d) {
		t.Errorf("Decode(%.300q): %.300s, %v at %d", want, fmt.Sprint(d), why, at)
	}
}

func mustRefuse(t *testing.T, b string, want api.Errno, place int) {
	t.Helper()
	c, why, at := classfile.Decode([]byte(b))
	if why != want || at != place || !reflect.DeepEqual(c, api.Class{}) {
		t.Errorf("Decode(%.300q): %.300s, %v at %d, want %v at %d", b, fmt.Sprint(c), why, at, want, place)
	}
}

// P4.2: the run, and one of each part by its bytes.
func TestBytes(t *testing.T) {
	const head, tail = "\xca\xfe\xba\xbe\x00\x01\x00\x00\x00\x01A\x00\x00", "\x00\x00"
	for want, c := range map[string]api.Class{
		head + tail: {Name: "A"},
		"\xca\xfe\xba\xbe\x00\x01\x00\x00\x00\x01A\x00\x02BC\x00\x00":                                                  {Name: "A", Super: "BC"},
		"\xca\xfe\xba\xbe\x00\x01\x00\x01\x03\x00\x00\x01\x05\x00\x01A\x00\x00\x00\x00":                                {Name: "A", Pool: []api.Const{{Kind: 3, N: 261}}},
		head + "\x02\x00\x01f\x00\x01I\x00\x00\x02gh\x00\x02[I\x01\x00":                                                {Name: "A", Fields: []api.Field{{Name: "f", Desc: "I"}, {Name: "gh", Desc: "[I", Static: true}}},
		head + "\x00\x01\x00\x01m\x00\x03()V\x00\x01\x02\x00\x01\xb1\x00\x00":                                          {Name: "A", Methods: []api.Method{{Name: "m", Desc: "()V", Stack: 1, Locals: 2, Code: []byte{177}}}},
		head + "\x00\x01\x00\x01m\x00\x03()V\x01\x00\x00\x00\x00\x00\x00":                                              {Name: "A", Methods: []api.Method{{Name: "m", Desc: "()V", Static: true}}},
		head + "\x00\x01\x00\x01m\x00\x03()V\x02\x00\x00\x00\x00\x00\x00":                                              {Name: "A", Methods: []api.Method{{Name: "m", Desc: "()V", Native: true}}},
		head + "\x00\x01\x00\x01m\x00\x03()V\x03\x00\x00\x00\x00\x00\x00":                                              {Name: "A", Methods: []api.Method{{Name: "m", Desc: "()V", Static: true, Native: true}}},
		head + "\x00\x01\x00\x01m\x00\x03()V\x00\x00\x00\x00\x00\x01\x01\x02\x03\x04\x05\x06\x00\x01E\x00":             {Name: "A", Methods: []api.Method{{Name: "m", Desc: "()V", Handlers: []api.Handler{{From: 258, To: 772, At: 1286, Type: "E"}}}}},
		head + "\x00\x01\x00\x01m\x00\x03()V\x00\x00\x00\x00\x00\x00\x01\x01\x02\x02\x00\x01?\x00\x010\x01\x00\x03LA;": {Name: "A", Methods: []api.Method{{Name: "m", Desc: "()V", Frames: []api.Frame{{At: 258, Locals: []string{"?", "0"}, Stack: []string{"LA;"}}}}}},
	} {
		mustCome(t, c, want)
		if s := written(c); s != want {
			t.Errorf("written: %q, want %q", s, want)
		}
	}
	mustRefuse(t, "", api.ErrEnd, 0)
}

// P4.4: classes at their edges come back.
func TestBackAndForth(t *testing.T) {
	edge := api.Class{Name: strings.Repeat("n", 64), Super: strings.Repeat("m", 64), Pool: numbers(256), Fields: fieldsNamed("f", 16), Methods: methodsNamed("m", 16)}
	edge.Methods[3].Code = []byte(strings.Repeat("c", 1024))
	edge.Methods[4].Handlers = handlers(64)
	edge.Methods[5].Frames = make([]api.Frame, 64)
	edge.Methods[6].Desc = wide(256)
	edge.Methods[7].Frames = []api.Frame{{At: 7, Locals: slotsOf("[I", 16), Stack: slotsOf("?", 16)}}
	for _, c := range []api.Class{whole(), edge} {
		mustCome(t, c, written(c))
		for n := range c.Methods {
			d := c
			d.Methods = c.Methods[n : n+1]
			mustCome(t, d, written(d))
		}
	}
}

// sized is a class of that many bytes, around MaxFile, and all that is left of its room in the last texts.
func sized(n int) api.Class {
	c := api.Class{Name: "A", Methods: methodsNamed("m", 16)}
	slot := "L" + strings.Repeat("x", 64) + ";"
	for i := range c.Methods[:15] {
		c.Methods[i].Code = make([]byte, 1000)
		c.Methods[i].Frames = []api.Frame{{Locals: slotsOf(slot, 15)}}
	}
	last := &c.Methods[15]
	for n-len(written(c)) > 80 {
		last.Handlers = append(last.Handlers, api.Handler{Type: strings.Repeat("h", 56)})
	}
	last.Code = make([]byte, n-len(written(c)))
	return c
}

// P4.2, P4.3: as many bytes as there may be, and one more.
func TestMaxFile(t *testing.T) {
	for n := 1<<15 - 2; n <= 1<<15; n++ {
		c := sized(n)
		if len(written(c)) != n {
			t.Fatalf("%d bytes, want %d", len(written(c)), n)
		}
		mustCome(t, c, written(c))
	}
	for _, n := range []int{1<<15 + 1, 1<<15 + 2, 1<<15 + 300} {
		c := sized(n)
		if b, why := classfile.Encode(c); why != api.ErrLong || len(b) > 0 {
			t.Errorf("Encode: %d bytes, %v", len(b), why)
		}
		if why := classfile.Right(c); why != api.OK {
			t.Errorf("Right: %v", why)
		}
		mustRefuse(t, written(c), api.ErrLong, 0)
	}
	c := sized(1<<15 + 1)
	c.Methods[15].Frames = []api.Frame{{Stack: []string{"V"}}}
	mustBe(t, c, api.ErrType)
	mustRefuse(t, strings.Repeat("x", 1<<15+1), api.ErrLong, 0)
	mustRefuse(t, strings.Repeat("x", 1<<15), api.ErrForm, 6)
	mustRefuse(t, written(api.Class{Name: "A"})+strings.Repeat("x", 1<<15), api.ErrLong, 0)
}

// P4.3: whatever is cut off is refused at the end of all, and what is behind it where it begins, ahead of what Right says.
func TestCutAndTail(t *testing.T) {
	b := written(whole())
	for n := range len(b) {
		mustRefuse(t, b[:n], api.ErrEnd, n)
	}
	mustRefuse(t, b+"\x00", api.ErrTail, len(b))
	mustRefuse(t, b+b, api.ErrTail, len(b))
	for _, ranks := range [][][]fault{classFaults()[:1], fieldFaults()} {
		for _, rank := range ranks {
			for _, f := range rank {
				s := written(with(1, f))
				mustRefuse(t, s, f.why, 0)
				mustRefuse(t, s+"\x00", api.ErrTail, len(s))
				mustRefuse(t, s[:len(s)-1], api.ErrEnd, len(s)-1)
			}
		}
	}
}

// P4.3: the first six bytes, each with another value.
func TestHead(t *testing.T) {
	b := written(whole())
	for n := range 6 {
		for x := range 256 {
			if s := b[:n] + b1(x) + b[n+1:]; s != b {
				mustRefuse(t, s, api.ErrForm, 6)
				mustRefuse(t, s[:6], api.ErrForm, 6)
				mustRefuse(t, s[:5], api.ErrEnd, 5)
			}
		}
	}
	mustRefuse(t, "xxxx", api.ErrEnd, 4)
}

// P4.3: flags that are none are refused behind them, though more is missing.
func TestFlags(t *testing.T) {
	const ahead = "\xca\xfe\xba\xbe\x00\x01\x00\x00\x00\x01A\x00\x00"
	field, method := ahead+"\x01\x00\x01f\x00\x01I", ahead+"\x00\x01\x00\x01m\x00\x03()V"
	for x := range 256 {
		if x > 1 {
			mustRefuse(t, field+b1(x), api.ErrForm, len(field)+1)
			mustRefuse(t, field+b1(x)+"\x00", api.ErrForm, len(field)+1)
		}
		if x > 3 {
			mustRefuse(t, method+b1(x), api.ErrForm, len(method)+1)
			mustRefuse(t, method+b1(x)+"\x00\x00\x00\x00\x00\x00", api.ErrForm, len(method)+1)
		}
	}
	mustRefuse(t, field+"\x01", api.ErrEnd, len(field)+1)
	mustRefuse(t, method+"\x03", api.ErrEnd, len(method)+1)
}

// P4.3: what the reader and the pool refuse, at their places.
func TestReaderRefuses(t *testing.T) {
	const head, ahead = "\xca\xfe\xba\xbe\x00\x01", "\xca\xfe\xba\xbe\x00\x01\x00\x00\x00\x01A\x00\x00"
	const body = ahead + "\x00\x01\x00\x01m\x00\x03()V\x00\x00\x00\x00\x00"
	for b, want := range map[string]struct {
		why api.Errno
		at  int
	}{
		head + "\x01\x01": {api.ErrMany, 8},
		head + "\x00\x01\x04\x00\x01A\x00\x00\x00\x00":                         {api.ErrForm, 9},
		head + "\x00\x01\x07\x00\x011\x00\x01A\x00\x00\x00\x00":                {api.ErrRef, 12},
		head + "\x00\x00\x01\x01" + strings.Repeat("n", 257):                   {api.ErrLong, 10},
		head + "\x00\x00\x00\x01\xff\x00\x00\x00\x00":                          {api.ErrForm, 11},
		head + "\x00\x00\x00\x01A\x01\x01":                                     {api.ErrLong, 13},
		ahead + "\x01\x00\x01\x00\x00\x01I\x00\x00":                            {api.ErrForm, len(ahead) + 4},
		ahead + "\x00\x01\x00\x01m\x01\x01":                                    {api.ErrLong, len(ahead) + 7},
		body + "\x01\x00\x00\x00\x00\x00\x00\xff\xff":                          {api.ErrLong, len(body) + 9},
		body + "\x00\x01\x00\x00\x01\x01\x01":                                  {api.ErrLong, len(body) + 7},
		body + "\x00\x01\x00\x00\x00\x01\x00\x01\x80":                          {api.ErrForm, len(body) + 9},
		body[:len(body)-2] + "\xff\xff" + strings.Repeat("c", 65534-32768-100): {api.ErrEnd, len(body) + 65534 - 32768 - 100},
	} {
		mustRefuse(t, b, want.why, want.at)
	}
}

// P4.3: numbers that bytes can say and a class can't have are refused by Right, at 0, wherever they stand.
func TestBytesOfWrongClasses(t *testing.T) {
	for _, n := range []int{17, 200, 255} {
		mustRefuse(t, written(api.Class{Name: "A", Fields: fieldsNamed("f", n)}), api.ErrMany, 0)
		mustRefuse(t, written(api.Class{Name: "A", Methods: methodsNamed("m", n)}), api.ErrMany, 0)
	}
	said := 0
	for _, rank := range methodFaults() {
		for _, f := range rank {
			c := with(1, f)
			if !sayable(c.Methods[1]) {
				continue
			}
			said++
			mustRefuse(t, written(c), f.why, 0)
		}
	}
	if said < 25 {
		t.Errorf("only %d wrong methods were read", said)
	}
}

// sayable tells whether all numbers and texts of m have room in their bytes.
func sayable(m api.Method) bool {
	byte1 := func(n int) bool { return 0 <= n && n < 256 }
	byte2 := func(n int) bool { return 0 <= n && n < 65536 }
	ok := len(m.Desc) <= 256 && byte1(m.Stack) && byte1(m.Locals) && len(m.Code) < 2000 && byte1(len(m.Handlers)) && byte1(len(m.Frames))
	for _, h := range m.Handlers {
		ok = ok && byte2(h.From) && byte2(h.To) && byte2(h.At)
	}
	for _, f := range m.Frames {
		ok = ok && byte2(f.At) && byte1(len(f.Locals)) && byte1(len(f.Stack))
	}
	return ok
}

// P4.4: each byte of a class with each other value: what is read is written so again, and is right.
func TestEachByteChanged(t *testing.T) {
	b := []byte(written(whole()))
	read := 0
	for n, was := range b {
		for x := range 256 {
			b[n] = byte(x)
			if mustComeBack(t, b) {
				read++
			}
		}
		b[n] = was
	}
	if read < 2*len(b) {
		t.Errorf("only %d were read", read)
	}
}

// mustComeBack holds W6 of any bytes: those that are read are written so again; others are refused, with no class beside it.
func mustComeBack(t *testing.T, b []byte) bool {
	t.Helper()
	c, why, at := classfile.Decode(b)
	if why != api.OK {
		if at < 0 || at > len(b) || !reflect.DeepEqual(c, api.Class{}) {
			t.Errorf("Decode(%.300q): %v at %d, %.300s", b, why, at, fmt.Sprint(c))
		}
		return false
	}
	if d, e := classfile.Encode(c); at != 0 || e != api.OK || string(d) != string(b) || written(c) != string(b) {
		t.Errorf("Decode(%.300q): at %d, written again %v, %.300q", b, at, e, d)
	}
	return true
}

// wipe overwrites all lists of c, with their spare room.
func wipe(c api.Class) {
	for _, m := range c.Methods {
		for _, f := range m.Frames {
			fill(f.Locals, "x")
			fill(f.Stack, "x")
		}
		fill(m.Code, 88)
		fill(m.Handlers, api.Handler{Type: "x"})
		fill(m.Frames, api.Frame{At: -1})
	}
	fill(c.Pool, api.Const{Name: "x"})
	fill(c.Fields, api.Field{Name: "x"})
	fill(c.Methods, api.Method{Name: "x"})
}

func fill[T any](l []T, x T) {
	l = l[:cap(l)]
	for i := range l {
		l[i] = x
	}
}

// R2: answers are new memory, and no two lists of one share any; what is handed in is left.
func TestNewMemory(t *testing.T) {
	b := []byte(written(whole()) + "behind")
	b = b[:len(b)-len("behind")]
	first, _, _ := classfile.Decode(b)
	second, _, _ := classfile.Decode(b)
	if string(b[:len(b)+6]) != written(whole())+"behind" {
		t.Errorf("changed: %q", b[:len(b)+6])
	}
	wipe(first)
	if !same(second, whole()) || string(b) != written(whole()) {
		t.Errorf("after the first was wiped: %+v", second)
	}
	fill(b, 0)
	if !same(second, whole()) {
		t.Errorf("after the bytes were wiped: %+v", second)
	}
	c := whole()
	one, _ := classfile.Encode(c)
	two, _ := classfile.Encode(c)
	fill(one, 0)
	wipe(c)
	if string(two) != written(whole()) {
		t.Errorf("after the class was wiped: %q", two)
	}
}

// R2: each list of an answer by itself.
func TestListsShareNothing(t *testing.T) {
	c, _, _ := classfile.Decode([]byte(written(whole())))
	for _, put := range []func(m *api.Method){
		func(m *api.Method) { fill(m.Code[len(m.Code):], 1) },
		func(m *api.Method) { fill(m.Handlers[len(m.Handlers):], api.Handler{Type: "x"}) },
		func(m *api.Method) { fill(m.Frames[len(m.Frames):], api.Frame{At: 9}) },
		func(m *api.Method) {
			for _, f := range m.Frames {
				fill(f.Locals[len(f.Locals):], "x")
				fill(f.Stack[len(f.Stack):], "x")
			}
		},
	} {
		for i := range c.Methods {
			put(&c.Methods[i])
		}
		if !same(c, whole()) {
			t.Errorf("%+v", c)
		}
	}
}

// P4.3, P4.4, W6: any bytes.
func FuzzBytes(f *testing.F) {
	f.Add([]byte(""))
	f.Add([]byte(written(api.Class{Name: "A"})))
	f.Add([]byte(written(whole())))
	f.Add([]byte(written(whole()) + "x"))
	f.Fuzz(func(t *testing.T, b []byte) { mustComeBack(t, b) })
}
