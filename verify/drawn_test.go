package verify_test

import (
	"math/rand"
	"slices"
	"strings"
	"testing"

	"carafe/api"
	"carafe/code"
	"carafe/descr"
	"carafe/flow"
	"carafe/frames"
	"carafe/kin"
	"carafe/types"
	"carafe/verify"
)

// grower makes methods that keep their types: parts of code, each with the frame at which it begins.
type grower struct {
	k      *kin.Kin
	c      api.Class
	m      api.Method
	draw   func(n int) int
	parts  []api.Frame
	begins []int // the number of a part's first instruction
	l      []api.Inst
	goals  map[int]bool // parts to which something branches
}

func (g *grower) of(l ...string) string { return l[g.draw(len(l))] }

// kind is a type that is known, often one that others fit.
func (g *grower) kind() string {
	return g.of("I", "?", "?", "0", "[I", "LObject;", "LA;", "LB;", "LE;", "LIndex;", "LThrowable;", "[LA;", "[LB;")
}

// wider is a type that s fits, or any.
func (g *grower) wider(s string) string {
	switch g.draw(5) {
	case 0:
		return types.Join(g.k, s, g.kind())
	case 1:
		return g.kind()
	}
	return s
}

// grown is a method that keeps its types.
func grown(k *kin.Kin, c api.Class, draw func(n int) int) api.Method {
	g := &grower{k: k, c: c, draw: draw, goals: map[int]bool{}}
	g.m = api.Method{Name: "x", Desc: g.of("()V", "(I)I", "(LB;I)LA;", "([LA;)V", "(ILE;)[I", "(II)I"), Static: draw(2) == 0, Stack: 1 + draw(5)}
	params, _, _ := descr.Method(g.m.Desc)
	g.m.Locals = len(params) + 1 + draw(3)
	locals, _ := frames.First(c.Name, g.m)
	g.parts = []api.Frame{{Locals: locals}}
	for range draw(6) {
		g.parts = append(g.parts, g.begin(locals))
	}
	for n := range g.parts {
		g.part(n)
	}
	g.finish()
	for range draw(6) {
		g.handler()
	}
	return g.m
}

// begin is the frame of a part: a handler's, or any.
func (g *grower) begin(locals []string) (f api.Frame) {
	if g.draw(3) == 0 {
		return api.Frame{Locals: slices.Repeat([]string{"?"}, len(locals)), Stack: []string{g.of("LThrowable;", "LIndex;", "LObject;")}}
	}
	for _, s := range locals {
		f.Locals = append(f.Locals, g.wider(s))
	}
	for range min(g.draw(5), g.m.Stack) {
		f.Stack = append(f.Stack, g.kind())
	}
	return f
}

// part grows the n-th part, and ends it by going on to the next one or elsewhere.
func (g *grower) part(n int) {
	f := g.parts[n]
	g.begins = append(g.begins, len(g.l))
	for range g.draw(10) {
		for range 24 {
			if i, behind, ok := g.try(g.draw(200), f); ok && !code.Ends(i.Op) {
				g.l, f = append(g.l, i), behind
				break
			}
		}
	}
	if len(g.l) == g.begins[n] {
		g.l = append(g.l, api.Inst{Op: api.Nop})
	}
	if n+1 < len(g.parts) && g.draw(2) == 0 && frames.Fits(g.k, f, g.parts[n+1]) {
		return
	}
	for range 6 {
		ends := []int{api.Goto, api.Return, api.IReturn, api.AReturn, api.Throw}
		if i, _, ok := g.try(ends[g.draw(5)], f); ok {
			g.l = append(g.l, i)
			return
		}
	}
	for range len(f.Stack) - g.m.Stack + 1 {
		g.l = append(g.l, api.Inst{Op: api.Pop})
	}
	g.l = append(g.l, api.Inst{Op: api.Null}, api.Inst{Op: api.Throw})
}

// try is an instruction of op, where f is met, and what is behind it; a branch's A is a part's number, for now.
func (g *grower) try(op int, f api.Frame) (api.Inst, api.Frame, bool) {
	i := api.Inst{Op: op}
	if _, ok := allSaid[op]; !ok {
		return i, f, false
	}
	if op == api.Inc {
		i.B = g.draw(256) - 128
	}
	numbers := numbersOf(op)
	from, behind, why := g.draw(len(numbers)), f, api.ErrRef
	for n := 0; n < len(numbers) && why != api.OK; n++ {
		i.A = numbers[(from+n)%len(numbers)]
		behind, why = saidStep(g.k, g.c, g.m, i, f)
	}
	if why == api.OK && code.Branch(op) {
		i.A = g.draw(len(g.parts))
		g.goals[i.A] = true
		return i, behind, frames.Fits(g.k, behind, g.parts[i.A])
	}
	return i, behind, why == api.OK
}

// finish says all places, and the frames there.
func (g *grower) finish() {
	at := 0
	for n := range g.l {
		g.l[n].At = at
		at += code.Size(g.l[n].Op)
	}
	for n := range g.l {
		if code.Branch(g.l[n].Op) {
			g.l[n].A = g.l[g.begins[g.l[n].A]].At
		}
	}
	g.m.Code, _ = code.Encode(g.l)
	for n, f := range g.parts {
		if n > 0 || g.goals[0] || g.draw(4) == 0 {
			g.m.Frames = append(g.m.Frames, api.Frame{At: g.l[g.begins[n]].At, Locals: f.Locals, Stack: f.Stack})
		}
	}
}

// handler puts one more there, most often one that keeps types.
func (g *grower) handler() {
	from := g.draw(len(g.l))
	to := from + g.draw(len(g.l)-from)
	h := api.Handler{From: g.l[from].At, To: g.l[to].At + code.Size(g.l[to].Op), At: g.l[g.begins[g.draw(len(g.parts))]].At, Type: g.of("Throwable", "Index", "E", "Memory")}
	m := g.m
	m.Handlers = append(slices.Clone(m.Handlers), h)
	g.c.Methods = []api.Method{m}
	if _, why, _ := saidStates(g.k, g.c, 0); why == api.OK || g.draw(20) == 0 {
		g.m = m
	}
}

// spoiled is m with one thing changed, which may be to its harm.
func spoiled(m api.Method, draw func(n int) int) api.Method {
	g := &grower{draw: draw}
	m.Code, m.Handlers, m.Frames = slices.Clone(m.Code), slices.Clone(m.Handlers), slices.Clone(m.Frames)
	f, h := &api.Frame{}, &api.Handler{}
	if len(m.Frames) > 0 {
		f = &m.Frames[draw(len(m.Frames))]
	}
	if len(m.Handlers) > 0 {
		h = &m.Handlers[draw(len(m.Handlers))]
	}
	switch draw(13) {
	case 0:
		m.Code[draw(len(m.Code))] = byte(draw(200))
	case 1:
		m.Code = m.Code[:draw(len(m.Code)+1)]
	case 2, 3:
		f.Locals = spoiledList(f.Locals, g)
	case 4, 5:
		f.Stack = spoiledList(f.Stack, g)
	case 6:
		m.Frames = slices.DeleteFunc(m.Frames, func(x api.Frame) bool { return x.At == f.At })
	case 7:
		f.At += draw(3) - 1
	case 8:
		h.Type = g.of("Throwable", "Index", "E", "A", "None", "")
	case 9:
		*[]*int{&h.From, &h.To, &h.At}[draw(3)] += draw(3) - 1
	case 10:
		m.Stack += draw(3) - 1
	case 11:
		m.Locals += draw(3) - 1
	case 12:
		m.Desc, m.Static = g.of("()V", "(I)I", "(LB;I)LA;", "(LNone;)V", "", "(I"), draw(2) == 0
	}
	return m
}

func spoiledList(l []string, g *grower) []string {
	l = slices.Clone(l)
	switch n := g.draw(4); {
	case n == 0:
		return append(l, g.kind())
	case n == 1 && len(l) > 0:
		return l[1:]
	case len(l) > 0:
		l[g.draw(len(l))] = g.of("I", "?", "0", "LA;", "LB;", "LObject;", "[LA;", "LNone;", "V", g.kind())
	}
	return l
}

// mustKeep goes all ways of code that is let by: what each of them brings fits the state there.
func mustKeep(t testing.TB, k *kin.Kin, c api.Class, m api.Method, states []api.Frame, draw func(n int) int) {
	l, _, _ := code.Decode(m.Code)
	if len(l) != len(states) {
		t.Fatalf("%d states of %d instructions of %+v", len(states), len(l), m)
	}
	fits := func(from int, f api.Frame, to int) {
		if to < 0 || !fitsOrIs(k, f.Locals, states[to].Locals) || !fitsOrIs(k, f.Stack, states[to].Stack) {
			t.Fatalf("%+v: from %d to %d comes %s", m, from, to, text(f))
		}
	}
	for n := range l {
		f, why := verify.Step(k, c, m, l[n], states[n])
		if why != api.OK || states[n].At != l[n].At {
			t.Fatalf("%+v: instruction %d: %v", m, n, why)
		}
		for _, to := range flow.Next(l, n) {
			fits(n, f, to)
		}
	}
	for range 4 {
		locals, _ := frames.First(c.Name, m)
		f, n := api.Frame{Locals: locals}, 0
		for range 40 {
			fits(n, f, n)
			to, behind := goOn(t, k, c, m, l, n, f, draw)
			if to < 0 {
				break
			}
			fits(n, behind, to)
			f, n = behind, to
		}
	}
}

// fitsOrIs tells whether each of l fits that of to, or, since what is of no class fits nothing, is the very same.
func fitsOrIs(k *kin.Kin, l, to []string) bool {
	return slices.EqualFunc(l, to, func(a, b string) bool { return types.Fits(k, a, b) || a == b && !types.Known(k, a) })
}

// goOn does instruction n where f is met, or throws there, and answers where it goes then, and with what; -1: it is over.
func goOn(t testing.TB, k *kin.Kin, c api.Class, m api.Method, l []api.Inst, n int, f api.Frame, draw func(n int) int) (int, api.Frame) {
	f = narrower(k, f, draw)
	for _, h := range m.Handlers {
		if h.From <= l[n].At && l[n].At < h.To && draw(4) == 0 {
			return flow.Find(l, h.At), narrower(k, api.Frame{Locals: f.Locals, Stack: []string{descr.Ref(h.Type)}}, draw)
		}
	}
	behind, why := verify.Step(k, c, m, l[n], f)
	if why != api.OK {
		t.Fatalf("%+v: instruction %d meets %s: %v", m, n, text(f), why)
	}
	next := flow.Next(l, n)
	if len(next) == 0 {
		return -1, behind
	}
	return next[draw(len(next))], behind
}

// narrower is a frame that fits f.
func narrower(k *kin.Kin, f api.Frame, draw func(n int) int) api.Frame {
	each := func(l []string) (out []string) {
		for _, s := range l {
			if by := kinds[draw(12)]; draw(3) == 0 && types.Fits(k, by, s) {
				s = by
			}
			out = append(out, s)
		}
		return out
	}
	return api.Frame{Locals: each(f.Locals), Stack: each(f.Stack)}
}

// P10.2 to P10.4: many methods that keep their types, and many that are near to such ones.
func TestDrawnMethods(t *testing.T) {
	k, c := withClasses(t)
	r := rand.New(rand.NewSource(102))
	met, used, caught := map[api.Errno]int{}, map[int]int{}, 0
	for range 6000 {
		m := grown(k, c, r.Intn)
		states, why := mustLetBy(t, k, c, m)
		if met[why]++; why == api.OK {
			mustKeep(t, k, c, m, states, r.Intn)
			l, _, _ := code.Decode(m.Code)
			for _, i := range l {
				used[i.Op]++
			}
			caught += len(m.Handlers)
		}
		for range 4 {
			other := spoiled(m, r.Intn)
			states, why := mustLetBy(t, k, c, other)
			if met[why]++; why == api.OK {
				mustKeep(t, k, c, other, states, r.Intn)
			}
		}
	}
	for _, why := range []api.Errno{api.OK, api.ErrFrame, api.ErrType, api.ErrDepth, api.ErrLocal, api.ErrNone, api.ErrRef, api.ErrOp, api.ErrEnd, api.ErrFall, api.ErrTarget, api.ErrDesc} {
		if met[why] < 10 {
			t.Errorf("%v only %d times", why, met[why])
		}
	}
	for op := range allSaid {
		if used[op] < 10 {
			t.Errorf("%s is let by only %d times", code.Name(op), used[op])
		}
	}
	if met[api.OK] < 6000 || caught < 500 {
		t.Errorf("%v, %d handlers", met, caught)
	}
}

// P10.1 to P10.4, R1: methods by any bytes, and any bytes as code.
func FuzzVerify(f *testing.F) {
	f.Add("", "", 0, 0)
	f.Add("\x01\x00\x02\x01\x03\x02\x04\x15\x07\x36\x01\x99\x02\x05\x03", "\x03\xac", 1, 0)
	f.Add(strings.Repeat("\x02\x05\x19\x00\x57\x03\x99\x01\x10\x04", 12), "\x03\x36\x00\x84\x00\x01\xa7\xff\xfd", 2, 1)
	f.Fuzz(func(t *testing.T, draws, raw string, stack, locals int) {
		k, c := withClasses(t)
		draw := func(n int) int {
			if len(draws) == 0 {
				return 0
			}
			x := int(draws[0]) % n
			draws = draws[1:]
			return x
		}
		for _, m := range []api.Method{grown(k, c, draw), method("(I)I", stack, locals, []byte(raw)...)} {
			if states, why := mustLetBy(t, k, c, m); why == api.OK {
				mustKeep(t, k, c, m, states, draw)
			}
			if len(m.Code) > 0 {
				mustLetBy(t, k, c, spoiled(m, draw))
			}
		}
	})
}
