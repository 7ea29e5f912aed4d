package verify_test

import (
	"fmt"
	"math/rand"
	"slices"
	"strings"
	"testing"

	"carafe/api"
	"carafe/code"
	"carafe/descr"
	"carafe/flow"
	"carafe/frames"
	"carafe/kin"
	"carafe/types"
	"carafe/verify"
)

// What follows says the chapter anew: an operation is a row of words, each asked behind the other.

// rows says the operations: the names of those that share a row, then its words.
const rows = `
nop goto:
null: push-0
constm1 const0 const1 const2 const3 const4 const5 push1 push2: push-I
ldc: int push-I
iload: read-I push-it
aload: read-ref push-it
istore: pop-I set
astore: pop-ref set
inc: read-I
iaload: pop-I pop-[I push-I
aaload: pop-I pop-refs push-elem
iastore: pop-I pop-I pop-[I
aastore: pop-ref pop-I pop-refs
pop: pop-any
dup: pop-any push-it push-it
swap: pop-any pop-any push-first push-it
add sub mul div rem shl shr ushr and or xor: pop-I pop-I push-I
neg: pop-I push-I
ifeq ifne iflt ifge ifgt ifle: pop-I
cmpeq cmpne cmplt cmpge cmpgt cmple: pop-I pop-I
refeq refne: pop-ref pop-ref
ifnull ifsome enter exit: pop-ref
ireturn: gives-I pop-I
areturn: gives-ref pop-given
return: gives-V
getstatic: static-field push-desc
putstatic: static-field pop-desc
getfield: own-field pop-owner push-desc
putfield: own-field pop-desc pop-owner
static: static-method params answer
virtual: own-method params pop-owner answer
new: name push-class
newints: ten pop-I push-[I
newrefs: name pop-I push-classes
length: pop-array push-I
throw: pop-LThrowable;
cast: kind pop-ref push-kind
isa: kind pop-ref push-I
`

// said are the words of each operation.
func said() map[int][]string {
	m := map[int][]string{}
	for _, line := range strings.Split(strings.TrimSpace(rows), "\n") {
		names, words, _ := strings.Cut(line, ":")
		for _, name := range strings.Fields(names) {
			for op := range 256 {
				if code.Name(op) == name {
					m[op] = strings.Fields(words)
				}
			}
		}
	}
	return m
}

// saying is an instruction that is said word by word.
type saying struct {
	k             *kin.Kin
	c             api.Class
	m             api.Method
	i             api.Inst
	locals, stack []string
	x             api.Const
	popped        []string
	it            string // the last one that was read or popped
}

func saidStep(k *kin.Kin, c api.Class, m api.Method, i api.Inst, f api.Frame) (api.Frame, api.Errno) {
	words, ok := allSaid[i.Op]
	if k == nil {
		return api.Frame{}, api.ErrArg
	}
	if !ok {
		return api.Frame{}, api.ErrOp
	}
	s := &saying{k: k, c: c, m: m, i: i, locals: slices.Clone(f.Locals), stack: slices.Clone(f.Stack)}
	for _, w := range words {
		verb, what, _ := strings.Cut(w, "-")
		if why := s.say(verb, what); why != api.OK {
			return api.Frame{}, why
		}
	}
	return api.Frame{Locals: s.locals, Stack: s.stack}, api.OK
}

var allSaid = said()

func (s *saying) say(verb, what string) api.Errno {
	switch verb {
	case "int", "static", "own", "name", "kind":
		return s.sayConstant(verb, what)
	case "ten":
		if s.i.A != 10 {
			return api.ErrOp
		}
	case "gives":
		_, s.it, _ = descr.Method(s.m.Desc)
		if !s.right(s.it, what) {
			return api.ErrType
		}
	case "read":
		if s.i.A < 0 || s.i.A > len(s.locals)-1 {
			return api.ErrLocal
		}
		if s.it = s.locals[s.i.A]; !s.right(s.it, what) {
			return api.ErrType
		}
	case "pop":
		return s.sayPop(what)
	case "params":
		params, _, _ := descr.Method(s.x.Desc)
		for n := len(params) - 1; n >= 0; n-- {
			if why := s.sayPop(params[n]); why != api.OK {
				return why
			}
		}
	case "set":
		if s.i.A < 0 || s.i.A > len(s.locals)-1 {
			return api.ErrLocal
		}
		s.locals[s.i.A] = s.it
	case "answer":
		if _, result, _ := descr.Method(s.x.Desc); result != "V" {
			return s.say("push", result)
		}
	case "push":
		s.stack = append(s.stack, s.meant(what))
		if len(s.stack) > s.m.Stack {
			return api.ErrDepth
		}
	default:
		panic(verb)
	}
	return api.OK
}

func (s *saying) sayPop(what string) api.Errno {
	what = s.meant(what)
	if len(s.stack) == 0 {
		return api.ErrDepth
	}
	s.it, s.stack = s.stack[len(s.stack)-1], s.stack[:len(s.stack)-1]
	s.popped = append(s.popped, s.it)
	if !s.right(s.it, what) {
		return api.ErrType
	}
	return api.OK
}

// sayConstant gets the constant of the kind that the words say, and looks for what it names.
func (s *saying) sayConstant(verb, what string) api.Errno {
	kind := map[string]int{"int": 3, "name": 7, "kind": 7, "staticfield": 9, "ownfield": 9, "staticmethod": 10, "ownmethod": 10}[verb+what]
	if s.i.A < 0 || s.i.A > len(s.c.Pool)-1 || s.c.Pool[s.i.A].Kind != kind {
		return api.ErrRef
	}
	s.x = s.c.Pool[s.i.A]
	_, there := s.k.Get(s.x.Class)
	_, f, hasField := s.k.Field(s.x.Class, s.x.Name, s.x.Desc)
	_, m, hasMethod := s.k.Method(s.x.Class, s.x.Name, s.x.Desc)
	switch {
	case verb == "int":
		return api.OK
	case verb == "name" && !descr.Name(s.x.Class):
		return api.ErrRef
	case verb == "kind" && strings.HasPrefix(s.x.Class, "["):
		there = types.Known(s.k, s.x.Class)
	case what == "field":
		there = there && hasField && f.Static == (verb == "static")
	case what == "method":
		there = there && hasMethod && m.Static == (verb == "static")
	}
	if !there {
		return api.ErrNone
	}
	return api.OK
}

// meant is the type that a word means.
func (s *saying) meant(what string) string {
	switch what {
	case "it", "given":
		return s.it
	case "first":
		return s.popped[0]
	case "elem":
		if s.it == "0" {
			return "0"
		}
		elem, _ := descr.Elem(s.it)
		return elem
	case "desc":
		return s.x.Desc
	case "owner", "class":
		return "L" + s.x.Class + ";"
	case "classes":
		return "[L" + s.x.Class + ";"
	case "kind":
		if s.x.Class[0] == '[' {
			return s.x.Class
		}
		return "L" + s.x.Class + ";"
	}
	return what
}

func (s *saying) right(t, what string) bool {
	switch what {
	case "any":
		return true
	case "ref":
		return types.IsRef(t)
	case "V":
		return t == "V"
	case "array":
		return t == "0" || t != "" && t[0] == '['
	case "refs":
		return t == "0" || len(t) > 1 && t[:2] == "[L"
	}
	return types.Fits(s.k, t, what)
}

// mustSay holds Step against what is said.
func mustSay(t testing.TB, k *kin.Kin, c api.Class, m api.Method, i api.Inst, f api.Frame) api.Errno {
	got, why := verify.Step(k, c, m, i, f)
	want, because := saidStep(k, c, m, i, f)
	if why != because || !alike(got, want) {
		t.Fatalf("%s %d in %s with Stack %d, meeting %s: %v, %v, want %v, %v", code.Name(i.Op), i.A, m.Desc, m.Stack, text(f), got, why, want, because)
	}
	return why
}

// P10.1: the rows name each operation, once.
func TestAllAreSaid(t *testing.T) {
	for op := -1; op < 300; op++ {
		if _, ok := allSaid[op]; ok != (code.Size(op) > 0) {
			t.Errorf("operation %d: %v", op, ok)
		}
	}
}

var kinds = []string{"I", "?", "0", "[I", "LObject;", "LA;", "LB;", "LE;", "LThrowable;", "[LA;", "[LB;", "[LObject;", "LNone;", "[LNone;", "V", "", "[", "[L", "[[I"}

// eachStack tells all stacks of at most n.
func eachStack(n int, tell func([]string)) {
	tell(nil)
	if n == 0 {
		return
	}
	eachStack(n-1, func(l []string) {
		if len(l) == n-1 {
			for _, s := range kinds {
				tell(append(slices.Clone(l), s))
			}
		}
	})
	eachStack(n-1, func(l []string) {
		if len(l) > 0 {
			tell(l)
		}
	})
}

// numbersOf are those numbers that make a difference to an operation.
func numbersOf(op int) []int {
	words := strings.Join(allSaid[op], " ")
	switch {
	case strings.Contains(words, "ten"):
		return []int{9, 10}
	case strings.Contains(words, "read") || strings.Contains(words, "set"):
		return []int{-1, 0, 1, 2}
	case strings.HasPrefix(words, "int"), strings.Contains(words, "static-"), strings.Contains(words, "own-"), strings.Contains(words, "name"), strings.Contains(words, "kind"):
		var l []int
		for n := range behindAll + 2 {
			l = append(l, n-1)
		}
		return l
	}
	return []int{0}
}

// P10.1: each operation with each constant, meeting each stack of up to two, with room and without; each local.
func TestEachStack(t *testing.T) {
	k, c := withClasses(t)
	for op := range allSaid {
		for _, a := range numbersOf(op) {
			eachStack(2, func(stack []string) {
				for _, most := range []int{0, 1, 2, 3} {
					f := api.Frame{Locals: []string{"I", "LA;"}, Stack: stack}
					mustSay(t, k, c, api.Method{Desc: "()LA;", Stack: most}, api.Inst{Op: op, A: a}, f)
				}
			})
		}
		for _, s := range kinds {
			for _, stack := range kinds {
				mustSay(t, k, c, api.Method{Desc: "()V", Stack: 2}, api.Inst{Op: op, A: 1}, api.Frame{Locals: []string{"?", s}, Stack: []string{stack}})
			}
		}
	}
}

// P10.1: what pops three or more, meeting each stack of three.
func TestEachStackOfThree(t *testing.T) {
	k, c := withClasses(t)
	for _, i := range []api.Inst{{Op: api.IaStore}, {Op: api.AaStore}, {Op: api.Virtual, A: methodM}, {Op: api.Virtual, A: methodBM}, {Op: api.Static, A: methodE}, {Op: api.PutField, A: fieldG}, {Op: api.RefEq}, {Op: api.Swap}} {
		met := map[api.Errno]int{}
		eachStack(3, func(stack []string) {
			met[mustSay(t, k, c, api.Method{Stack: 3}, i, api.Frame{Stack: stack})]++
		})
		if met[api.OK] < 2 || met[api.ErrDepth] == 0 || met[api.ErrType] == 0 && i.Op != api.Swap {
			t.Errorf("%s: %v", code.Name(i.Op), met)
		}
	}
}

// P10.1: each operation in a method of each result.
func TestEachResult(t *testing.T) {
	k, c := withClasses(t)
	for op := range allSaid {
		for _, desc := range []string{"()I", "()V", "(I)[I", "()LA;", "(LA;I)[LA;", "()LNone;", "()", "", "V", "I", "(V)V", "()[[I"} {
			eachStack(1, func(stack []string) {
				mustSay(t, k, c, api.Method{Desc: desc, Stack: 1}, api.Inst{Op: op, A: classA}, api.Frame{Stack: stack})
			})
		}
	}
}

// P10.1: as many parameters as there may be, each of them at its place.
func TestMostParameters(t *testing.T) {
	k, c := withClasses(t)
	params := []string{"I", "[I", "LA;", "[LB;", "LThread;", "I", "LIndex;", "LObject;"}
	desc := descr.Join(params, "LE;")
	x := api.Class{Name: "X", Super: "Object", Methods: []api.Method{{Name: "s", Desc: desc, Static: true, Locals: 8}, {Name: "v", Desc: desc, Locals: 9}}}
	if why := k.Add(x); why != api.OK {
		t.Fatal(why)
	}
	c.Pool = []api.Const{{Kind: 10, Class: "X", Name: "s", Desc: desc}, {Kind: 10, Class: "X", Name: "v", Desc: desc}}
	for _, i := range []api.Inst{{Op: api.Static, A: 0}, {Op: api.Virtual, A: 1}} {
		stack := append([]string{"?"}, params...)
		if i.Op == api.Virtual {
			stack = append([]string{"?", "LX;"}, params...)
		}
		m := api.Method{Stack: 2}
		if f, why := verify.Step(k, c, m, i, api.Frame{Stack: stack}); why != api.OK || text(f) != "|? LE;" {
			t.Errorf("%s: %v, %v", code.Name(i.Op), f, why)
		}
		for n := range stack {
			mustSay(t, k, c, m, i, api.Frame{Stack: stack[n:]})
			for _, s := range kinds {
				other := slices.Clone(stack)
				other[n] = s
				mustSay(t, k, c, m, i, api.Frame{Stack: other})
			}
		}
	}
}

// saidStates says P10.2 anew: what an instruction meets is asked backwards.
func saidStates(k *kin.Kin, c api.Class, n int) ([]api.Frame, api.Errno, int) {
	if k == nil || n < 0 || n > len(c.Methods)-1 {
		return nil, api.ErrArg, 0
	}
	m := c.Methods[n]
	if m.Native {
		return nil, api.OK, 0
	}
	l, why, at := code.Decode(m.Code)
	if why != api.OK {
		return nil, why, at
	}
	if why, at := flow.Check(l, m.Handlers, m.Frames); why != api.OK {
		return nil, why, at
	}
	for _, h := range m.Handlers {
		if !slices.Contains(k.Line(h.Type), "Throwable") {
			return nil, api.ErrNone, h.At
		}
	}
	marks := map[int]api.Frame{}
	for _, f := range m.Frames {
		if marks[f.At] = f; !frames.Known(k, f) || len(f.Locals) != m.Locals || m.Stack < len(f.Stack) {
			return nil, api.ErrFrame, f.At
		}
	}
	locals, why := frames.First(c.Name, m)
	if why != api.OK {
		return nil, why, 0
	}
	var states []api.Frame
	for n := range l {
		comes := &api.Frame{Locals: locals}
		if n > 0 && code.Ends(l[n-1].Op) {
			comes = nil
		} else if n > 0 {
			f, _ := saidStep(k, c, m, l[n-1], states[n-1])
			comes = &f
		}
		f, why := saidState(k, c, m, l[n], comes, marks)
		if why != api.OK {
			return nil, why, l[n].At
		}
		states = append(states, f)
	}
	return states, api.OK, 0
}

// saidState is the state of i, to which comes comes, if anything does.
func saidState(k *kin.Kin, c api.Class, m api.Method, i api.Inst, comes *api.Frame, marks map[int]api.Frame) (api.Frame, api.Errno) {
	goes := func(f api.Frame, to int) bool {
		there, ok := marks[to]
		return ok && frames.Fits(k, f, there)
	}
	met, marked := marks[i.At]
	if marked && comes != nil && !goes(*comes, i.At) || !marked && comes == nil {
		return api.Frame{}, api.ErrFrame
	}
	if !marked {
		met = *comes
	}
	for _, h := range m.Handlers {
		if h.From <= i.At && i.At < h.To && !goes(api.Frame{Locals: met.Locals, Stack: []string{"L" + h.Type + ";"}}, h.At) {
			return api.Frame{}, api.ErrFrame
		}
	}
	behind, why := saidStep(k, c, m, i, met)
	if why == api.OK && code.Branch(i.Op) && !goes(behind, i.A) {
		why = api.ErrFrame
	}
	met.At = i.At
	return met, why
}

// told is a text that is the same of two lists of frames just if they are.
func told(l []api.Frame) string {
	var b strings.Builder
	for _, f := range l {
		fmt.Fprintf(&b, "%d %s; ", f.At, text(f))
	}
	return b.String()
}

// mustLetBy holds States, Method and Class of a class of one method against what is said.
func mustLetBy(t testing.TB, k *kin.Kin, c api.Class, m api.Method) ([]api.Frame, api.Errno) {
	c.Methods = []api.Method{m}
	states, why, at := verify.States(k, c, 0)
	want, because, place := saidStates(k, c, 0)
	if why != because {
		want = nil
	}
	if told(states) != told(want) || why != because || at != place {
		t.Fatalf("States of %+v: %s, %v at %d, want %s, %v at %d", m, told(states), why, at, told(want), because, place)
	}
	if why, at := verify.Method(k, c, 0); why != because || at != place {
		t.Fatalf("Method of %+v: %v at %d, want %v at %d", m, why, at, because, place)
	}
	if why, n, at := verify.Class(k, c); why != because || n != 0 || at != place {
		t.Fatalf("Class of %+v: %v, %d, %d, want %v at %d", m, why, n, at, because, place)
	}
	return states, why
}

// P10.2: all code of up to three instructions of some, with each choice of some frames.
func TestShortCode(t *testing.T) {
	k, c := withClasses(t)
	insts := []api.Inst{{Op: api.Nop}, {Op: api.Null}, {Op: api.Const0}, {Op: api.Pop}, {Op: api.ILoad}, {Op: api.IStore}, {Op: api.Return}, {Op: api.Throw}, {Op: api.Goto, A: 0}, {Op: api.Goto, A: 1}, {Op: api.Goto, A: 2}, {Op: api.IfEq, A: 0}, {Op: api.IfEq, A: 2}}
	marks := []*api.Frame{nil, {Locals: list("?")}, {Locals: list("I")}, {Locals: list("I"), Stack: list("I")}}
	met := map[api.Errno]int{}
	for size := 1; size <= 3; size++ {
		for n := range power(len(insts), size) {
			l := assembled(insts, n, size)
			b, why := code.Encode(l)
			if why != api.OK || !code.Ends(l[size-1].Op) {
				continue
			}
			for choice := range power(len(marks), size) {
				m := api.Method{Name: "x", Desc: "(I)V", Static: true, Stack: 1, Locals: 1, Code: b, Frames: marked(l, marks, choice)}
				_, why := mustLetBy(t, k, c, m)
				met[why]++
			}
		}
	}
	for _, why := range []api.Errno{api.OK, api.ErrDepth, api.ErrType, api.ErrFrame, api.ErrTarget} {
		if met[why] < 100 {
			t.Errorf("%v only %d times", why, met[why])
		}
	}
}

func power(n, times int) int {
	if times == 0 {
		return 1
	}
	return n * power(n, times-1)
}

// assembled is the n-th list of size instructions; a branch's A is the number of the instruction to which it goes.
func assembled(insts []api.Inst, n, size int) []api.Inst {
	var l []api.Inst
	at := 0
	for range size {
		i := insts[n%len(insts)]
		n /= len(insts)
		i.At = at
		at += code.Size(i.Op)
		l = append(l, i)
	}
	placed(l)
	return l
}

// placed turns numbers of instructions into places; of numbers that are none into a place where none stands.
func placed(l []api.Inst) {
	for n := range l {
		if !code.Branch(l[n].Op) {
			continue
		}
		if to := l[n].A; to < len(l) {
			l[n].A = l[to].At
		} else {
			l[n].A = l[len(l)-1].At + 9
		}
	}
}

func marked(l []api.Inst, marks []*api.Frame, choice int) []api.Frame {
	var fs []api.Frame
	for _, i := range l {
		if f := marks[choice%len(marks)]; f != nil {
			fs = append(fs, api.Frame{At: i.At, Locals: f.Locals, Stack: f.Stack})
		}
		choice /= len(marks)
	}
	return fs
}

// P10.1: many frames of any kinds, with any operation and number.
func TestDrawnSteps(t *testing.T) {
	k, c := withClasses(t)
	r := rand.New(rand.NewSource(10))
	met := map[api.Errno]int{}
	draw := func(most int) (l []string) {
		for range r.Intn(most) {
			l = append(l, kinds[r.Intn(len(kinds)-6*r.Intn(2))])
		}
		return l
	}
	for range 200000 {
		i := api.Inst{At: r.Intn(9), Op: r.Intn(202), A: r.Intn(behindAll+3) - 1, B: r.Intn(3)}
		m := api.Method{Desc: []string{"()I", "()V", "()LA;", ""}[r.Intn(4)], Stack: r.Intn(7)}
		met[mustSay(t, k, c, m, i, api.Frame{At: r.Intn(9), Locals: draw(5), Stack: draw(6)})]++
	}
	for _, why := range []api.Errno{api.OK, api.ErrOp, api.ErrRef, api.ErrNone, api.ErrLocal, api.ErrType, api.ErrDepth} {
		if met[why] < 1000 {
			t.Errorf("%v only %d times", why, met[why])
		}
	}
}
