package maps_test

import (
	"math/rand"
	"slices"
	"testing"

	"carafe/api"
	"carafe/code"
	"carafe/flow"
	"carafe/frames"
	"carafe/kin"
	"carafe/maps"
	"carafe/types"
	"carafe/verify"
)

// grower makes a method that keeps its types, an instruction at a time.
type grower struct {
	k           *kin.Kin
	c           api.Class
	m           api.Method
	draw        func(n int) int
	l           []api.Inst
	met, behind []api.Frame // what each instruction meets, and leaves
}

// drawn is a method of c that is let by.
func drawn(k *kin.Kin, c api.Class, draw func(n int) int) api.Method {
	g := &grower{k: k, c: c, draw: draw}
	g.m = api.Method{Name: "x", Desc: []string{"()V", "(ILA;)V", "([ILB;I)V"}[draw(3)], Static: draw(2) == 0, Stack: 1 + draw(4), Locals: 4 + draw(4)}
	locals, _ := frames.First(c.Name, g.m)
	f := api.Frame{Locals: locals}
	for range 1 + draw(25) {
		f = g.more(f)
	}
	g.put(api.Inst{Op: api.Return}, f)
	g.aim()
	g.finish()
	for range draw(8) {
		g.handler()
	}
	return g.m
}

// put puts i there, if it may stand where f is met.
func (g *grower) put(i api.Inst, f api.Frame) bool {
	behind, why := verify.Step(g.k, g.c, g.m, i, f)
	if why == api.OK {
		g.l, g.met, g.behind = append(g.l, i), append(g.met, f), append(g.behind, behind)
	}
	return why == api.OK
}

// more puts one more instruction there, and answers what the next one meets.
func (g *grower) more(f api.Frame) api.Frame {
	ops := []int{api.Nop, api.Null, api.Const1, api.ILoad, api.ILoad, api.ALoad, api.ALoad, api.IStore, api.IStore, api.AStore, api.AStore, api.Inc, api.Pop, api.Dup, api.Swap, api.Add, api.IfEq, api.IfEq, api.IfNull, api.RefEq, api.Goto, api.New, api.NewInts, api.GetField, api.Ldc, api.Throw, api.Return}
	for range 40 {
		i := api.Inst{Op: ops[g.draw(len(ops))]}
		switch i.Op {
		case api.ILoad, api.ALoad, api.IStore, api.AStore, api.Inc:
			i.A = g.draw(g.m.Locals)
		case api.NewInts:
			i.A = 10
		case api.GetField:
			i.A = 1
		case api.Ldc:
			i.A = 2
		}
		if g.put(i, f) {
			break
		}
	}
	if n := len(g.l); n > 0 && code.Ends(g.l[n-1].Op) {
		return g.anew(f)
	}
	if n := len(g.l); n > 0 {
		return g.behind[n-1]
	}
	return f
}

// anew is what is met behind an instruction that ends: a handler's, or much like f.
func (g *grower) anew(f api.Frame) api.Frame {
	locals := slices.Clone(f.Locals)
	for n := range locals {
		if g.draw(3) == 0 {
			locals[n] = "?"
		}
	}
	if g.draw(2) == 0 {
		return api.Frame{Locals: locals, Stack: []string{"LThrowable;"}}
	}
	return api.Frame{Locals: locals, Stack: f.Stack}
}

// aim gives each branch an instruction where what it leaves may be met; for now its A is that one's number.
func (g *grower) aim() {
	for n, i := range g.l {
		if !code.Branch(i.Op) {
			continue
		}
		var may []int
		for to, f := range g.met {
			if frames.Fits(g.k, g.behind[n], f) {
				may = append(may, to)
			}
		}
		if len(may) == 0 {
			g.l[n] = api.Inst{Op: api.Return}
			continue
		}
		g.l[n].A = may[g.draw(len(may))]
	}
}

// finish says places, code and frames; a frame that is not asked for is left out now and then.
func (g *grower) finish() {
	g.l = laid(g.l...)
	asked := map[int]bool{}
	for n, i := range g.l {
		asked[n+1] = asked[n+1] || code.Ends(i.Op)
		if code.Branch(i.Op) {
			asked[i.A] = true
			g.l[n].A = g.l[i.A].At
		}
	}
	g.m.Code, _ = code.Encode(g.l)
	for n, i := range g.l {
		if asked[n] || g.draw(2) == 0 {
			f := g.met[n]
			g.m.Frames = append(g.m.Frames, api.Frame{At: i.At, Locals: f.Locals, Stack: f.Stack})
		}
	}
}

// handler puts one there, if it keeps types.
func (g *grower) handler() {
	from, at := g.draw(len(g.l)), g.draw(len(g.l))
	to := from + g.draw(min(6, len(g.l)-from))
	m := g.m
	m.Handlers = append(slices.Clone(m.Handlers), api.Handler{From: g.l[from].At, To: g.l[to].At + code.Size(g.l[to].Op), At: g.l[at].At, Type: "Index"})
	g.c.Methods = []api.Method{m}
	if why, _ := verify.Method(g.k, g.c, 0); why == api.OK {
		g.m = m
	}
}

// mustStandAnything goes ways through a method that is let by, where what is not live is lost at each instruction: none of them misses it.
func mustStandAnything(t *testing.T, k *kin.Kin, c api.Class, all []maps.Map, draw func(n int) int) {
	t.Helper()
	m := c.Methods[0]
	l, _, _ := code.Decode(m.Code)
	states, _, _ := verify.States(k, c, 0)
	for from := range l {
		f, n := states[from], from
		for range 20 {
			f.Locals = slices.Clone(f.Locals)
			for local, live := range all[n].Live {
				if !live {
					f.Locals[local] = "?"
				} else if !types.Fits(k, f.Locals[local], states[n].Locals[local]) {
					t.Fatalf("%+v: on a way from %d local %d is %s at %d, but live", m, from, local, f.Locals[local], n)
				}
			}
			behind, why := verify.Step(k, c, m, l[n], f)
			if why != api.OK {
				t.Fatalf("%+v: on a way from %d instruction %d meets %v: %v", m, from, n, f, why)
			}
			to := flow.Next(l, n)
			if caught := isCaught(l, m.Handlers, n); len(caught) > 0 && draw(2) == 0 {
				to, behind = caught, api.Frame{Locals: f.Locals, Stack: []string{"LIndex;"}}
			}
			if len(to) == 0 {
				break
			}
			f, n = behind, to[draw(len(to))]
		}
	}
}

// P11.2, P11.3: many methods that are let by.
func TestDrawnMethods(t *testing.T) {
	k, c := world(t)
	r := rand.New(rand.NewSource(112))
	handlers, kept, lost, stacked := 0, 0, 0, 0
	for range 3000 {
		c.Methods = []api.Method{drawn(k, c, r.Intn)}
		all, why := mustMap(t, k, c, 0)
		if why != api.OK {
			t.Fatalf("%+v: %v", c.Methods[0], why)
		}
		mustStandAnything(t, k, c, all, r.Intn)
		handlers += len(c.Methods[0].Handlers)
		for _, m := range all {
			for n, ref := range m.Locals {
				if ref && m.Live[n] {
					kept++
				} else if ref {
					lost++
				}
			}
			stacked += len(m.Stack)
		}
	}
	if handlers < 500 || kept < 3000 || lost < 3000 || stacked < 3000 {
		t.Errorf("too little is asked: %d handlers, %d references that are live, %d that are not, %d on stacks", handlers, kept, lost, stacked)
	}
}

// P11.2, R1: whatever the bytes of the code, and whatever stands beside it.
func FuzzMaps(f *testing.F) {
	f.Add([]byte("\x15\x00\xac"), "(I)I", "I", "", 1, 1, 0, 0, 0, 0)
	f.Add([]byte("\x01\x3a\x00\x19\x00\xb0\x57\x19\x01\xb0"), "(LA;LA;)LA;", "LA;", "LThrowable;", 2, 2, 0, 3, 6, 6)
	f.Add([]byte("\xa7\x00\x00\x15\x00\xac"), "()V", "?", "I", 1, 1, 0, 9, 3, 0)
	f.Fuzz(func(t *testing.T, b []byte, desc, local, stacked string, stack, locals, from, to, at, frame int) {
		k, c := world(t)
		m := method(desc, stack, locals, b...)
		for range 4 {
			c.Methods = []api.Method{m}
			mustMap(t, k, c, 0)
			switch {
			case len(m.Frames) == 0:
				m.Frames = []api.Frame{{At: frame, Locals: slices.Repeat([]string{local}, max(0, min(locals, 20))), Stack: []string{stacked}}}
			case len(m.Handlers) == 0:
				m.Handlers = []api.Handler{{From: from, To: to, At: at, Type: "Index"}}
			default:
				m.Static = false
			}
		}
	})
}
