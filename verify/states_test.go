package verify_test

import (
	"math"
	"slices"
	"testing"

	"carafe/api"
	"carafe/kin"
	"carafe/verify"
)

// method is a Static one of that descriptor, with as many locals as it takes.
func method(desc string, stack, locals int, b ...byte) api.Method {
	return api.Method{Name: "x", Desc: desc, Static: true, Stack: stack, Locals: locals, Code: b}
}

// with is m with these frames, and these handlers.
func with(m api.Method, h []api.Handler, fs ...api.Frame) api.Method {
	m.Handlers, m.Frames = h, fs
	return m
}

func handlers(h ...api.Handler) []api.Handler { return h }

// checked is a method, and what must be told of it.
type checked struct {
	name string
	m    api.Method
	why  api.Errno
	at   int
}

func mustCheck(t *testing.T, l []checked) {
	t.Helper()
	k, c := withClasses(t)
	for _, x := range l {
		c.Methods = []api.Method{method("()V", 0, 0, api.Return), {Name: "n", Desc: "()V", Native: true}, x.m}
		which := 2
		if x.why == api.OK {
			which = 0
		}
		if l, why, at := verify.States(k, c, 2); why != x.why || at != x.at || why != api.OK && len(l) > 0 {
			t.Errorf("%s: States: %s, %v at %d, want %v at %d", x.name, told(l), why, at, x.why, x.at)
		}
		if why, at := verify.Method(k, c, 2); why != x.why || at != x.at {
			t.Errorf("%s: Method: %v at %d, want %v at %d", x.name, why, at, x.why, x.at)
		}
		if why, n, at := verify.Class(k, c); why != x.why || n != which || at != x.at {
			t.Errorf("%s: Class: %v, %d, %d, want %v, %d, %d", x.name, why, n, at, x.why, which, x.at)
		}
		mustLetBy(t, k, c, x.m)
	}
}

// P10.2, P10.3: the chapter's runs and examples.
func TestRuns(t *testing.T) {
	mustCheck(t, []checked{
		{"const0, ireturn", method("()I", 1, 0, api.Const0, api.IReturn), api.OK, 0},
		{"const0, ireturn with Stack 0", method("()I", 0, 0, api.Const0, api.IReturn), api.ErrDepth, 0},
		{"null, ireturn", method("()I", 1, 0, api.Null, api.IReturn), api.ErrType, 1},
		{"goto 0 without a frame", method("()V", 0, 0, api.Goto, 0, 0), api.ErrFrame, 0},
		{"goto 0", with(method("()V", 0, 0, api.Goto, 0, 0), nil, stands(0, "", "")), api.OK, 0},
		{"no code", method("()V", 0, 0), api.ErrFall, 0},
		{"code that is never reached", method("()V", 0, 0, api.Return, api.Return), api.ErrFrame, 1},
		{"code that is never reached, with its frame", with(method("()V", 0, 0, api.Return, api.Return), nil, stands(1, "", "")), api.OK, 0},
	})
	k, _ := withClasses(t)
	if why, n, at := verify.Class(k, api.Class{Name: "A"}); why != api.OK || n != 0 || at != 0 {
		t.Errorf("Class of a class without methods: %v, %d, %d", why, n, at)
	}
}

// P10.2, R1: no classes, no such method, and a Native one.
func TestNoMethod(t *testing.T) {
	k, c := withClasses(t)
	c.Methods = []api.Method{{Name: "n", Desc: "()V", Native: true}, {Name: "o", Desc: "x", Native: true, Code: []byte{9}, Stack: -1, Locals: 99, Frames: []api.Frame{stands(-1, "V", "")}}, method("()V", 0, 0, api.Return)}
	for _, n := range []int{math.MinInt, -1, 3, 4, math.MaxInt} {
		if l, why, at := verify.States(k, c, n); len(l) > 0 || why != api.ErrArg || at != 0 {
			t.Errorf("States of method %d: %v, %v at %d", n, l, why, at)
		}
		if why, at := verify.Method(k, c, n); why != api.ErrArg || at != 0 {
			t.Errorf("Method of method %d: %v at %d", n, why, at)
		}
	}
	for n := range c.Methods {
		if l, why, at := verify.States(nil, c, n); len(l) > 0 || why != api.ErrArg || at != 0 {
			t.Errorf("States of method %d without classes: %v, %v at %d", n, l, why, at)
		}
		if why, at := verify.Method(nil, c, n); why != api.ErrArg || at != 0 {
			t.Errorf("Method of method %d without classes: %v at %d", n, why, at)
		}
		l, why, at := verify.States(k, c, n)
		if want := n / 2; len(l) != want || why != api.OK || at != 0 {
			t.Errorf("States of method %d: %v, %v at %d", n, l, why, at)
		}
	}
	if why, n, at := verify.Class(nil, c); why != api.ErrArg || n != 0 || at != 0 {
		t.Errorf("Class without classes: %v, %d, %d", why, n, at)
	}
	if why, n, at := verify.Class(nil, api.Class{Name: "A"}); why != api.OK || n != 0 || at != 0 {
		t.Errorf("Class without classes, of no method that is refused: %v, %d, %d", why, n, at)
	}
	if why, n, at := verify.Class(k, c); why != api.OK || n != 0 || at != 0 {
		t.Errorf("Class: %v, %d, %d", why, n, at)
	}
	if _, why, at := verify.States(k, api.Class{}, 0); why != api.ErrArg || at != 0 {
		t.Errorf("States of no class: %v at %d", why, at)
	}
}

// P10.2: what is refused ahead of all instructions, at its place.
func TestRefusedAhead(t *testing.T) {
	const nop, pop, ret = api.Nop, api.Pop, api.Return
	plain := method("()V", 1, 0, nop, nop, ret, pop, ret)
	index := handlers(api.Handler{From: 0, To: 1, At: 3, Type: "Index"})
	mustCheck(t, []checked{
		{"no operation", method("()V", 0, 0, nop, 9, ret), api.ErrOp, 1},
		{"cut off", method("()V", 0, 0, nop, api.Goto, 0), api.ErrEnd, 1},
		{"too long", method("()V", 0, 0, append(make([]byte, 1024), ret)...), api.ErrLong, 0},
		{"as long as may be", method("()V", 0, 0, append(make([]byte, 1023), ret)...), api.OK, 0},
		{"a branch to nowhere", method("()V", 0, 0, nop, api.Goto, 0, 9), api.ErrTarget, 1},
		{"falls off", method("()V", 0, 0, nop, nop), api.ErrFall, 1},
		{"a handler from nowhere", with(plain, handlers(api.Handler{From: 7, To: 8, At: 3, Type: "Index"})), api.ErrTarget, 7},
		{"a frame at no instruction", with(plain, nil, stands(77, "", "")), api.ErrTarget, 77},
		{"frames that fall", with(plain, nil, stands(3, "", ""), stands(1, "", "")), api.ErrFrame, 1},
		{"a handler", with(plain, index, stands(3, "", "LThrowable;")), api.OK, 0},
		{"a handler of Throwable", with(plain, handlers(api.Handler{From: 0, To: 1, At: 3, Type: "Throwable"}), stands(3, "", "LThrowable;")), api.OK, 0},
		{"a handler of no Throwable", with(plain, handlers(index[0], api.Handler{From: 0, To: 2, At: 1, Type: "A"}), stands(3, "", "LThrowable;")), api.ErrNone, 1},
		{"a handler of Object", with(plain, handlers(api.Handler{From: 0, To: 1, At: 3, Type: "Object"}), stands(3, "", "LObject;")), api.ErrNone, 3},
		{"a handler of no class", with(plain, handlers(api.Handler{From: 0, To: 1, At: 3, Type: "None"}), stands(3, "", "LThrowable;")), api.ErrNone, 3},
		{"two of no class", with(plain, handlers(api.Handler{From: 0, To: 1, At: 4, Type: "None"}, api.Handler{From: 0, To: 1, At: 3, Type: "None"})), api.ErrNone, 4},
		{"a frame that is not known", with(plain, nil, stands(1, "", "LNone;"), stands(3, "", "I")), api.ErrFrame, 1},
		{"a frame of what is no type", with(plain, nil, stands(1, "", ""), stands(3, "", "V")), api.ErrFrame, 3},
		{"a frame of locals too many", with(plain, nil, stands(1, "I", ""), stands(3, "", "I")), api.ErrFrame, 1},
		{"a frame of locals too few", with(method("()V", 1, 2, nop, nop, ret), nil, stands(2, "?", "")), api.ErrFrame, 2},
		{"a frame of too many on its stack", with(plain, nil, stands(3, "", "I I")), api.ErrFrame, 3},
		{"a frame of as many as may be", with(plain, nil, stands(3, "", "I")), api.OK, 0},
		{"the second of two frames", with(plain, nil, stands(3, "", "I"), stands(4, "", "I I")), api.ErrFrame, 4},
		{"no descriptor", method("()", 0, 0, ret), api.ErrDesc, 0},
		{"locals too few", method("(II)V", 0, 1, ret), api.ErrLocal, 0},
		{"locals too many", method("(II)V", 0, 17, ret), api.ErrLocal, 0},
		{"locals below 0", method("()V", 0, -1, ret), api.ErrLocal, 0},
		{"the object's own local", api.Method{Name: "x", Desc: "()V", Code: []byte{ret}}, api.ErrLocal, 0},
		{"the object's own local, with room", api.Method{Name: "x", Desc: "()V", Locals: 1, Code: []byte{ret}}, api.OK, 0},
		{"Stack below 0", method("()V", -1, 0, nop, ret), api.OK, 0},
		{"Stack below 0, with a frame", with(method("()V", -1, 0, nop, ret), nil, stands(1, "", "")), api.ErrFrame, 1},
		{"Stack above what a class may have", method("()V", 17, 0, append(slices.Repeat([]byte{api.Null}, 17), ret)...), api.OK, 0},
		{"a parameter of no class", method("(LNone;)V", 0, 1, ret), api.OK, 0},
	})
}

// P10.2, R3: of several that apply the first named: each of these methods has all the faults from its own on.
func TestOrderAhead(t *testing.T) {
	const ret = api.Return
	m := api.Method{Name: "x", Desc: "(", Static: true, Stack: 0, Locals: 1,
		Code:     []byte{api.Pop, api.Nop, api.Goto, 0, 9, 9},
		Handlers: handlers(api.Handler{From: 0, To: 1, At: 1, Type: "None"}, api.Handler{From: 4, To: 9, At: 0, Type: "Index"}),
		Frames:   []api.Frame{stands(1, "LNone;", ""), stands(0, "?", "I")},
	}
	l := []checked{}
	put := func(name string, why api.Errno, at int) { l = append(l, checked{name, m, why, at}) }
	put("Decode", api.ErrOp, 5)
	m.Code = []byte{api.Pop, api.Nop, api.Goto, 0, 9, ret}
	put("Check's branch", api.ErrTarget, 2)
	m.Code = []byte{api.Pop, api.Nop, ret, ret, ret, ret}
	put("Check's handler", api.ErrTarget, 4)
	m.Handlers = m.Handlers[:1]
	put("Check's frame", api.ErrFrame, 0)
	m.Frames = []api.Frame{stands(1, "?", "I"), stands(2, "LNone;", "")}
	put("a handler's Type", api.ErrNone, 1)
	m.Handlers = handlers(api.Handler{From: 0, To: 1, At: 1, Type: "Index"})
	put("a frame", api.ErrFrame, 1)
	m.Frames = m.Frames[:0]
	put("First's Desc", api.ErrDesc, 0)
	m.Desc = "(II)V"
	put("First's locals", api.ErrLocal, 0)
	m.Desc = "()V"
	put("no frame for the handler, at the first instruction", api.ErrFrame, 0)
	m.Handlers = nil
	put("Step", api.ErrDepth, 0)
	m.Code = []byte{api.Nop, api.Nop, ret, ret, ret, ret}
	put("nothing is met", api.ErrFrame, 3)
	mustCheck(t, l)
}

// P10.2: what an instruction meets, by the one ahead and by its frame.
func TestMeets(t *testing.T) {
	const nop, ret, pop = api.Nop, api.Return, api.Pop
	mustCheck(t, []checked{
		{"what comes fits", with(method("(I)V", 0, 1, nop, ret), nil, stands(1, "?", "")), api.OK, 0},
		{"what comes at first fits", with(method("(LB;)V", 0, 1, ret), nil, stands(0, "LA;", "")), api.OK, 0},
		{"what comes at first does not", with(method("(LA;)V", 0, 1, ret), nil, stands(0, "LB;", "")), api.ErrFrame, 0},
		{"what comes does not fit", with(method("(I)V", 0, 1, nop, ret), nil, stands(1, "LA;", "")), api.ErrFrame, 1},
		{"more comes", with(method("()V", 1, 0, api.Const0, ret), nil, stands(1, "", "")), api.ErrFrame, 1},
		{"less comes", with(method("()V", 1, 0, nop, ret), nil, stands(1, "", "I")), api.ErrFrame, 1},
		{"the frame is met, not what came", with(method("(I)I", 1, 1, nop, api.ILoad, 0, api.IReturn), nil, stands(1, "?", "")), api.ErrType, 1},
		{"the frame at first is met", with(method("(I)I", 1, 1, api.ILoad, 0, api.IReturn), nil, stands(0, "?", "")), api.ErrType, 0},
		{"what came is met", with(method("(I)I", 1, 1, nop, api.ILoad, 0, api.IReturn), nil, stands(1, "I", "")), api.OK, 0},
		{"a parameter of no class does not fit itself", with(method("(LNone;)V", 0, 1, nop, ret), nil, stands(1, "?", "")), api.ErrFrame, 1},
		{"behind goto", method("()V", 0, 0, api.Goto, 0, 4, nop, ret), api.ErrFrame, 0},
		{"behind goto, without a frame", with(method("()V", 0, 0, api.Goto, 0, 4, nop, ret), nil, stands(4, "", "")), api.ErrFrame, 3},
		{"behind goto, with one of anything", with(method("(I)V", 1, 1, api.Goto, 0, 4, pop, ret), nil, stands(3, "[LA;", "LE;"), stands(4, "?", "")), api.OK, 0},
		{"behind ireturn", method("()I", 1, 0, api.Const0, api.IReturn, api.IReturn), api.ErrFrame, 2},
		{"behind areturn", method("()LA;", 1, 0, api.Null, api.AReturn, api.AReturn), api.ErrFrame, 2},
		{"behind throw", method("()V", 1, 0, api.Null, api.Throw, ret), api.ErrFrame, 2},
		{"behind a branch that goes on", with(method("()V", 1, 0, api.Const0, api.IfEq, 0, 3, ret), nil, stands(4, "", "")), api.OK, 0},
		{"behind a branch without a frame of its own", with(method("()V", 1, 0, api.Const0, api.IfEq, 0, 4, nop, ret), nil, stands(5, "", "")), api.OK, 0},
	})
}

// P10.2: a branch asks for the frame where it goes, of what is behind it.
func TestBranches(t *testing.T) {
	const ret, pop = api.Return, api.Pop
	code := []byte{api.Const0, api.Const0, api.IfEq, 0, 4, pop, pop, ret}
	mustCheck(t, []checked{
		{"no frame there", method("()V", 2, 0, api.Const0, api.IfEq, 0, 3, ret), api.ErrFrame, 1},
		{"a frame elsewhere", with(method("()V", 2, 0, api.Const0, api.IfEq, 0, 4, ret, ret), nil, stands(4, "", "")), api.ErrFrame, 1},
		{"what was met, not what is behind", with(method("()V", 2, 0, api.Const0, api.IfEq, 0, 4, ret, ret), nil, stands(5, "", "I")), api.ErrFrame, 1},
		{"what is behind", with(method("()V", 2, 0, api.Const0, api.IfEq, 0, 4, ret, ret), nil, stands(5, "", "")), api.OK, 0},
		{"one is left, and the one behind takes it", with(method("()V", 2, 0, code...), nil, stands(6, "", "I")), api.ErrFrame, 6},
		{"none is left", with(method("()V", 2, 0, code...), nil, stands(6, "", "")), api.ErrFrame, 2},
		{"backwards, with less", with(method("(I)V", 1, 1, api.Null, api.AStore, 0, api.Goto, 0xff, 0xfd), nil, stands(0, "I", "")), api.ErrFrame, 3},
		{"backwards", with(method("(I)V", 1, 1, api.Null, api.AStore, 0, api.Goto, 0xff, 0xfd), nil, stands(0, "?", "")), api.OK, 0},
		{"refs", with(method("()V", 2, 0, api.Null, api.Null, api.RefNe, 0, 4, ret, ret), nil, stands(6, "", "")), api.OK, 0},
		{"refs without a frame", method("()V", 2, 0, api.Null, api.Null, api.RefNe, 0, 3, ret), api.ErrFrame, 2},
		{"ifsome without a frame", method("()V", 1, 0, api.Null, api.IfSome, 0, 3, ret), api.ErrFrame, 1},
		{"Step is refused ahead of the frame", method("()V", 1, 0, api.Null, api.IfEq, 0, 3, ret), api.ErrType, 1},
	})
}

// P10.2: each handler over an instruction asks for its frame, of the locals that are met.
func TestHandlers(t *testing.T) {
	const nop, ret, pop, c0 = api.Nop, api.Return, api.Pop, api.Const0
	over := func(from, to int, of string) []api.Handler {
		return handlers(api.Handler{From: from, To: to, At: 5, Type: of})
	}
	m := method("()V", 1, 1, c0, api.IStore, 0, nop, ret, pop, ret)
	mustCheck(t, []checked{
		{"over nothing that counts", with(m, over(3, 4, "Index"), stands(5, "I", "LIndex;")), api.OK, 0},
		{"without a frame", with(m, over(3, 4, "Index")), api.ErrFrame, 3},
		{"with a frame elsewhere", with(m, over(3, 4, "Index"), stands(6, "I", "LIndex;")), api.ErrFrame, 3},
		{"of a class above", with(m, over(3, 4, "E"), stands(5, "?", "LObject;")), api.OK, 0},
		{"of a class below", with(m, over(3, 4, "Index"), stands(5, "I", "LE;")), api.ErrFrame, 3},
		{"of a class beside", with(m, over(3, 4, "Index"), stands(5, "I", "LCast;")), api.ErrFrame, 3},
		{"over what stores", with(m, over(1, 4, "Index"), stands(5, "I", "LIndex;")), api.ErrFrame, 1},
		{"from the first one on", with(m, over(0, 1, "Index"), stands(5, "I", "LIndex;")), api.ErrFrame, 0},
		{"over all ahead of it", with(m, over(0, 5, "Index"), stands(5, "?", "LIndex;")), api.OK, 0},
		{"over itself", with(m, over(0, 7, "Index"), stands(5, "?", "LIndex;")), api.OK, 0},
		{"over itself alone", with(m, over(5, 6, "Index"), stands(5, "LA;", "LIndex;")), api.OK, 0},
		{"up to, but without To", with(m, over(3, 4, "Index"), stands(4, "?", ""), stands(5, "I", "LIndex;")), api.OK, 0},
		{"not without To", with(m, over(3, 5, "Index"), stands(4, "?", ""), stands(5, "I", "LIndex;")), api.ErrFrame, 4},
		{"an empty stack there", with(m, over(3, 4, "Index"), stands(5, "I", "")), api.ErrFrame, 3},
		{"the second of two", with(m, append(over(3, 4, "Index"), over(0, 1, "Throwable")...), stands(5, "?", "LIndex;")), api.ErrFrame, 0},
		{"two over one", with(m, append(over(3, 4, "Index"), over(3, 4, "Throwable")...), stands(5, "?", "LIndex;")), api.ErrFrame, 3},
		{"the frame's locals, not those that came", with(m, over(3, 4, "Index"), stands(3, "?", ""), stands(5, "I", "LIndex;")), api.ErrFrame, 3},
		{"what comes does not fit, ahead of handlers", with(m, over(1, 4, "Index"), stands(1, "I", ""), stands(5, "I", "LIndex;")), api.ErrFrame, 1},
		{"a handler ahead of Step", with(method("()V", 1, 1, pop, nop, nop, nop, ret, pop, ret), over(0, 1, "Index")), api.ErrFrame, 0},
		{"Step without a handler", with(method("()V", 1, 1, pop, nop, nop, nop, ret, pop, ret), over(1, 2, "Index")), api.ErrDepth, 0},
	})
}

// P10.3: of several methods that are refused the first one.
func TestFirstMethod(t *testing.T) {
	k, c := withClasses(t)
	right, falls, deep := method("()V", 0, 0, api.Return), method("()V", 0, 0, api.Return, api.Nop), method("()V", 0, 0, api.Nop, api.Pop, api.Return)
	for _, x := range []struct {
		l     []api.Method
		why   api.Errno
		n, at int
	}{
		{nil, api.OK, 0, 0}, {[]api.Method{right}, api.OK, 0, 0}, {[]api.Method{right, right, right}, api.OK, 0, 0},
		{[]api.Method{falls}, api.ErrFall, 0, 1}, {[]api.Method{deep, falls}, api.ErrDepth, 0, 1}, {[]api.Method{falls, deep}, api.ErrFall, 0, 1},
		{[]api.Method{right, deep, falls, right}, api.ErrDepth, 1, 1}, {[]api.Method{right, {Native: true}, right, falls}, api.ErrFall, 3, 1},
		{append(slices.Repeat([]api.Method{right}, 40), deep), api.ErrDepth, 40, 1},
	} {
		c.Methods = x.l
		if why, n, at := verify.Class(k, c); why != x.why || n != x.n || at != x.at {
			t.Errorf("%d methods: %v, %d, %d, want %v, %d, %d", len(x.l), why, n, at, x.why, x.n, x.at)
		}
	}
}

// P10.3: the classes that are always there are let by.
func TestAlwaysThere(t *testing.T) {
	k := kin.New()
	for _, name := range k.Names() {
		c, _ := k.Get(name)
		if why, n, at := verify.Class(k, c); why != api.OK || n != 0 || at != 0 {
			t.Errorf("%s: %v, %d, %d", name, why, n, at)
		}
	}
}

// P10.2: the states of a whole method, with what is met from ahead and what frames say.
func TestStates(t *testing.T) {
	k, c := withClasses(t)
	loop := api.Method{Name: "x", Desc: "(LB;I)I", Stack: 2, Locals: 4,
		Code:     []byte{api.Null, api.AStore, 3, api.ILoad, 2, api.IfLe, 0, 14, api.ALoad, 1, api.AStore, 3, api.Inc, 2, 255, api.Goto, 0xff, 0xf4, api.Throw, api.ALoad, 3, api.IfNull, 0, 5, api.Const1, api.IReturn, api.Const0, api.IReturn},
		Handlers: handlers(api.Handler{From: 8, To: 15, At: 18, Type: "Memory"}),
		Frames:   []api.Frame{stands(3, "LA; LB; I LA;", ""), stands(18, "LThread; ? I ?", "LThrowable;"), stands(19, "? ? ? LObject;", ""), stands(26, "? ? ? ?", "")},
	}
	c.Methods = []api.Method{loop}
	l, why, at := verify.States(k, c, 0)
	want := "0 LA; LB; I ?|; 1 LA; LB; I ?|0; 3 LA; LB; I LA;|; 5 LA; LB; I LA;|I; 8 LA; LB; I LA;|; 10 LA; LB; I LA;|LB;; 12 LA; LB; I LB;|; 15 LA; LB; I LB;|; " +
		"18 LThread; ? I ?|LThrowable;; 19 ? ? ? LObject;|; 21 ? ? ? LObject;|LObject;; 24 ? ? ? LObject;|; 25 ? ? ? LObject;|I; 26 ? ? ? ?|; 27 ? ? ? ?|I; "
	if why != api.OK || at != 0 || told(l) != want {
		t.Errorf("%s, %v at %d, want %s", told(l), why, at, want)
	}
	mustLetBy(t, k, c, loop)
}

// P10.2: the object's own class is the first local, whether k has it or not.
func TestOwnClass(t *testing.T) {
	k, c := withClasses(t)
	c.Name = "Z"
	m := api.Method{Name: "x", Desc: "()V", Stack: 1, Locals: 1, Code: []byte{api.ALoad, 0, api.Pop, api.Return}}
	l, why := mustLetBy(t, k, c, m)
	if why != api.OK || told(l) != "0 LZ;|; 2 LZ;|LZ;; 3 LZ;|; " {
		t.Errorf("%s, %v", told(l), why)
	}
	m.Frames = []api.Frame{stands(3, "?", "")}
	if _, why := mustLetBy(t, k, c, m); why != api.ErrFrame {
		t.Errorf("with a frame: %v", why)
	}
	c.Name = "B"
	if _, why := mustLetBy(t, k, c, m); why != api.OK {
		t.Errorf("with a frame, of a class that is there: %v", why)
	}
}
