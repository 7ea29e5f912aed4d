package verify_test

import (
	"math"
	"slices"
	"strings"
	"testing"

	"carafe/api"
	"carafe/code"
	"carafe/kin"
	"carafe/verify"
)

// Numbers of constants, as they stand in consts.
const (
	anInt = iota
	classA
	classB
	classNone
	arrayI
	arrayB
	arrayNone
	classEmpty
	classRef
	classBracket
	classDigit
	fieldF    // not Static
	fieldBF   // B has one of its own, which is Static
	fieldS    // Static
	fieldBS   // A's, by B
	fieldG    // an array
	fieldNone // of a class that is none
	fieldLess // of a class, a field that is none
	fieldDesc // one of another Desc
	fieldX    // its own type is of no class
	methodM
	methodBM
	methodZ
	methodE
	methodQ
	methodU // takes what is of no class
	methodNone
	methodLess
	methodDesc
	methodStart
	methodPrint
	methodWait
	noKind
	behindAll
)

// consts has what there is and what there is not, right and wrong entries.
func consts() []api.Const {
	class := func(s string) api.Const { return api.Const{Kind: api.ConstClass, Class: s} }
	field := func(c, n, d string) api.Const {
		return api.Const{Kind: api.ConstField, Class: c, Name: n, Desc: d}
	}
	method := func(c, n, d string) api.Const {
		return api.Const{Kind: api.ConstMethod, Class: c, Name: n, Desc: d}
	}
	return []api.Const{
		anInt:  {Kind: api.ConstInt, N: 7},
		classA: class("A"), classB: class("B"), classNone: class("None"),
		arrayI: class("[I"), arrayB: class("[LB;"), arrayNone: class("[LNone;"),
		classEmpty: class(""), classRef: class("LA;"), classBracket: class("["), classDigit: class("1"),
		fieldF: field("A", "f", "I"), fieldBF: field("B", "f", "I"), fieldS: field("A", "s", "LA;"), fieldBS: field("B", "s", "LA;"),
		fieldG: field("A", "g", "[LB;"), fieldNone: field("None", "f", "I"), fieldLess: field("A", "m", "I"), fieldDesc: field("A", "f", "LA;"), fieldX: field("A", "x", "LNone;"),
		methodM: method("A", "m", "(ILA;)[I"), methodBM: method("B", "m", "(ILA;)[I"), methodZ: method("A", "z", "(I)V"), methodE: method("B", "e", "([ILA;I)I"),
		methodQ: method("A", "q", "()LB;"), methodU: method("A", "u", "(LNone;)V"), methodNone: method("None", "z", "(I)V"), methodLess: method("A", "f", "(I)V"), methodDesc: method("A", "z", "()V"),
		methodStart: method("A", "start", "()V"), methodPrint: method("System", "print", "(I)V"), methodWait: method("E", "wait", "()V"),
		noKind: {Kind: 99, Class: "A", Name: "f", Desc: "I"},
	}
}

// withClasses are A below Thread, B below A, E below Index, and A with the constants.
func withClasses(t testing.TB) (*kin.Kin, api.Class) {
	t.Helper()
	a := api.Class{Name: "A", Super: "Thread",
		Fields: []api.Field{{Name: "f", Desc: "I"}, {Name: "s", Desc: "LA;", Static: true}, {Name: "g", Desc: "[LB;"}, {Name: "x", Desc: "LNone;", Static: true}},
		Methods: []api.Method{
			{Name: "m", Desc: "(ILA;)[I", Locals: 3}, {Name: "z", Desc: "(I)V", Static: true, Locals: 1}, {Name: "e", Desc: "([ILA;I)I", Static: true, Locals: 3},
			{Name: "q", Desc: "()LB;", Static: true}, {Name: "u", Desc: "(LNone;)V", Static: true, Locals: 1},
		},
	}
	b := api.Class{Name: "B", Super: "A", Fields: []api.Field{{Name: "f", Desc: "I", Static: true}}, Methods: []api.Method{{Name: "m", Desc: "(ILA;)[I", Locals: 3}}}
	k := kin.New()
	for _, c := range []api.Class{a, b, {Name: "E", Super: "Index"}} {
		if why := k.Add(c); why != api.OK {
			t.Fatal(why)
		}
	}
	a.Methods, a.Pool = nil, consts()
	return k, a
}

func list(s string) []string { return strings.Fields(s) }

func stands(at int, locals, stack string) api.Frame {
	return api.Frame{At: at, Locals: list(locals), Stack: list(stack)}
}

// alike tells whether two frames are the same; nil and empty lists mean the same.
func alike(a, b api.Frame) bool {
	return a.At == b.At && slices.Equal(a.Locals, b.Locals) && slices.Equal(a.Stack, b.Stack)
}

func text(f api.Frame) string {
	return strings.Join(f.Locals, " ") + "|" + strings.Join(f.Stack, " ")
}

// one is a Step: what is met, and what must be behind it (locals and stack, parted by a stroke), or the refusal.
type one struct {
	op, a         int
	locals, stack string
	want          string
	why           api.Errno
}

// mustStep holds each of l, done in a method of three on its stack, against what Step answers.
func mustStep(t *testing.T, desc string, l []one) {
	t.Helper()
	k, c := withClasses(t)
	for _, x := range l {
		f := stands(9, x.locals, x.stack)
		got, why := verify.Step(k, c, api.Method{Desc: desc, Stack: 3}, api.Inst{At: 5, Op: x.op, A: x.a}, f)
		want := x.want
		if x.why != api.OK {
			want = "|"
		}
		if why != x.why || text(got) != want || got.At != 0 {
			t.Errorf("%s %d of %s, meeting %s|%s: %v, %v, want %s, %v", code.Name(x.op), x.a, desc, x.locals, x.stack, got, why, want, x.why)
		}
		if !alike(f, stands(9, x.locals, x.stack)) {
			t.Errorf("%s changed what it met: %v", code.Name(x.op), f)
		}
	}
}

const (
	depth   = api.ErrDepth
	local   = api.ErrLocal
	wrong   = api.ErrType
	noRef   = api.ErrRef
	notHere = api.ErrNone
	noOp    = api.ErrOp
)

// P10.1: what pushes, and what moves between locals and stack.
func TestPushesAndLocals(t *testing.T) {
	mustStep(t, "()V", []one{
		{api.Nop, 0, "I ?", "0 I", "I ?|0 I", 0}, {api.Nop, -1, "", "", "|", 0}, {api.Goto, 0, "LA;", "I", "LA;|I", 0},
		{api.Null, 0, "", "I", "|I 0", 0}, {api.Null, 0, "", "I I I", "", depth},
		{api.Ldc, anInt, "", "0", "|0 I", 0}, {api.Ldc, classA, "", "", "", noRef}, {api.Ldc, noKind, "", "", "", noRef}, {api.Ldc, behindAll, "", "", "", noRef}, {api.Ldc, -1, "", "I I I", "", noRef}, {api.Ldc, anInt, "", "I I I", "", depth},
		{api.ILoad, 0, "I LA;", "0", "I LA;|0 I", 0}, {api.ILoad, 1, "I LA;", "", "", wrong}, {api.ILoad, 2, "I LA;", "", "", local}, {api.ILoad, -1, "I", "", "", local}, {api.ILoad, 0, "", "I I I", "", local}, {api.ILoad, 0, "?", "I I I", "", wrong}, {api.ILoad, 0, "I", "I I I", "", depth},
		{api.ALoad, 0, "LB; I", "", "LB; I|LB;", 0}, {api.ALoad, 1, "I 0", "I", "I 0|I 0", 0}, {api.ALoad, 0, "[I", "", "[I|[I", 0}, {api.ALoad, 0, "LNone;", "", "LNone;|LNone;", 0}, {api.ALoad, 0, "I", "", "", wrong}, {api.ALoad, 0, "?", "", "", wrong}, {api.ALoad, 0, "L", "", "", wrong}, {api.ALoad, 1, "0", "", "", local}, {api.ALoad, 0, "0", "I I I", "", depth},
		{api.IStore, 1, "? 0 ?", "I I", "? I ?|I", 0}, {api.IStore, 0, "?", "0", "", wrong}, {api.IStore, 0, "?", "?", "", wrong}, {api.IStore, 0, "?", "", "", depth}, {api.IStore, 1, "?", "", "", depth}, {api.IStore, 1, "?", "0", "", wrong}, {api.IStore, 1, "?", "I", "", local}, {api.IStore, -1, "?", "I", "", local},
		{api.AStore, 1, "? I ?", "I LA;", "? LA; ?|I", 0}, {api.AStore, 0, "LA;", "0", "0|", 0}, {api.AStore, 0, "I", "[LNone;", "[LNone;|", 0}, {api.AStore, 0, "I", "I", "", wrong}, {api.AStore, 0, "I", "?", "", wrong}, {api.AStore, 3, "I", "?", "", wrong}, {api.AStore, 3, "I", "", "", depth}, {api.AStore, 3, "I", "0", "", local},
		{api.Inc, 0, "I 0", "I I I I", "I 0|I I I I", 0}, {api.Inc, 1, "I 0", "", "", wrong}, {api.Inc, 2, "I 0", "", "", local}, {api.Inc, -1, "I 0", "", "", local},
	})
	for _, op := range []int{api.ConstM1, api.Const0, api.Const1, api.Const2, api.Const3, api.Const4, api.Const5, api.Push1, api.Push2} {
		mustStep(t, "()V", []one{{op, -1, "0", "LA; 0", "0|LA; 0 I", 0}, {op, 300, "", "I I I", "", depth}, {op, 0, "", "I I I I", "", depth}})
	}
}

// P10.1: arrays, the stack itself, numbers, and what is asked of numbers and refs.
func TestPopsAndPushes(t *testing.T) {
	mustStep(t, "()V", []one{
		{api.IaLoad, 0, "?", "0 [I I", "?|0 I", 0}, {api.IaLoad, 0, "", "0 I", "|I", 0}, {api.IaLoad, 0, "", "[LA; I", "", wrong}, {api.IaLoad, 0, "", "[I 0", "", wrong}, {api.IaLoad, 0, "", "I [I", "", wrong}, {api.IaLoad, 0, "", "I", "", depth}, {api.IaLoad, 0, "", "0", "", wrong}, {api.IaLoad, 0, "", "", "", depth},
		{api.AaLoad, 0, "", "I [LB; I", "|I LB;", 0}, {api.AaLoad, 0, "", "0 I", "|0", 0}, {api.AaLoad, 0, "", "[LNone; I", "|LNone;", 0}, {api.AaLoad, 0, "", "[I I", "", wrong}, {api.AaLoad, 0, "", "LObject; I", "", wrong}, {api.AaLoad, 0, "", "? I", "", wrong}, {api.AaLoad, 0, "", "[LB; 0", "", wrong}, {api.AaLoad, 0, "", "I", "", depth},
		{api.IaStore, 0, "I", "I [I I I", "I|I", 0}, {api.IaStore, 0, "", "0 I I", "|", 0}, {api.IaStore, 0, "", "[I I 0", "", wrong}, {api.IaStore, 0, "", "[I 0 I", "", wrong}, {api.IaStore, 0, "", "[LA; I I", "", wrong}, {api.IaStore, 0, "", "I I", "", depth}, {api.IaStore, 0, "", "0 I", "", wrong}, {api.IaStore, 0, "", "I", "", depth},
		{api.AaStore, 0, "", "I [LA; I LObject;", "|I", 0}, {api.AaStore, 0, "", "0 I 0", "|", 0}, {api.AaStore, 0, "", "[LNone; I LNone;", "|", 0}, {api.AaStore, 0, "", "[LA; I I", "", wrong}, {api.AaStore, 0, "", "[LA; I ?", "", wrong}, {api.AaStore, 0, "", "[LA; 0 0", "", wrong}, {api.AaStore, 0, "", "[I I 0", "", wrong}, {api.AaStore, 0, "", "I 0", "", depth}, {api.AaStore, 0, "", "0", "", depth},
		{api.Pop, 0, "", "? I", "|?", 0}, {api.Pop, 0, "I", "LNone;", "I|", 0}, {api.Pop, 0, "", "V", "|", 0}, {api.Pop, 0, "", "", "", depth},
		{api.Dup, 0, "", "0 ?", "|0 ? ?", 0}, {api.Dup, 0, "", "LNone;", "|LNone; LNone;", 0}, {api.Dup, 0, "", "I I I", "", depth}, {api.Dup, 0, "", "", "", depth},
		{api.Swap, 0, "0", "I I ?", "0|I ? I", 0}, {api.Swap, 0, "", "LNone; V", "|V LNone;", 0}, {api.Swap, 0, "", "I", "", depth}, {api.Swap, 0, "", "", "", depth}, {api.Swap, 0, "", "I I I 0", "", depth},
		{api.Neg, 0, "0", "0 I", "0|0 I", 0}, {api.Neg, 0, "", "0", "", wrong}, {api.Neg, 0, "", "", "", depth},
		{api.Length, 0, "", "I [LA;", "|I I", 0}, {api.Length, 0, "", "[I", "|I", 0}, {api.Length, 0, "", "0", "|I", 0}, {api.Length, 0, "", "LObject;", "", wrong}, {api.Length, 0, "", "I", "", wrong}, {api.Length, 0, "", "?", "", wrong}, {api.Length, 0, "", "", "", depth},
		{api.Throw, 0, "I", "I LE;", "I|I", 0}, {api.Throw, 0, "", "LThrowable;", "|", 0}, {api.Throw, 0, "", "0", "|", 0}, {api.Throw, 0, "", "LObject;", "", wrong}, {api.Throw, 0, "", "LA;", "", wrong}, {api.Throw, 0, "", "I", "", wrong}, {api.Throw, 0, "", "", "", depth},
	})
	for _, op := range []int{api.Add, api.Sub, api.Mul, api.Div, api.Rem, api.Shl, api.Shr, api.Ushr, api.And, api.Or, api.Xor} {
		mustStep(t, "()V", []one{{op, 0, "0", "0 I I", "0|0 I", 0}, {op, 0, "", "I 0", "", wrong}, {op, 0, "", "0 I", "", wrong}, {op, 0, "", "I", "", depth}, {op, 0, "", "?", "", wrong}})
	}
	for op := api.IfEq; op <= api.IfLe; op++ {
		mustStep(t, "()V", []one{{op, 0, "?", "0 I", "?|0", 0}, {op, 0, "", "I 0", "", wrong}, {op, 0, "", "", "", depth}})
		mustStep(t, "()V", []one{{op + 6, 0, "?", "0 I I", "?|0", 0}, {op + 6, 0, "", "I 0", "", wrong}, {op + 6, 0, "", "0 I", "", wrong}, {op + 6, 0, "", "I", "", depth}})
	}
	for _, op := range []int{api.IfNull, api.IfSome, api.Enter, api.Exit} {
		mustStep(t, "()V", []one{{op, 0, "?", "I 0", "?|I", 0}, {op, 0, "", "[LNone;", "|", 0}, {op, 0, "", "0 I", "", wrong}, {op, 0, "", "?", "", wrong}, {op, 0, "", "", "", depth}})
	}
	for _, op := range []int{api.RefEq, api.RefNe} {
		mustStep(t, "()V", []one{{op, 0, "?", "I 0 LA;", "?|I", 0}, {op, 0, "", "0 I", "", wrong}, {op, 0, "", "I 0", "", wrong}, {op, 0, "", "0", "", depth}, {op, 0, "", "?", "", wrong}})
	}
}

// P10.1: fields and methods, by their constants.
func TestMembers(t *testing.T) {
	mustStep(t, "()V", []one{
		{api.GetStatic, fieldS, "I", "I", "I|I LA;", 0}, {api.GetStatic, fieldBS, "", "", "|LA;", 0}, {api.GetStatic, fieldBF, "", "", "|I", 0}, {api.GetStatic, fieldX, "", "", "|LNone;", 0}, {api.GetStatic, fieldS, "", "I I I", "", depth},
		{api.GetStatic, fieldF, "", "", "", notHere}, {api.GetStatic, fieldNone, "", "", "", notHere}, {api.GetStatic, fieldLess, "", "", "", notHere}, {api.GetStatic, fieldDesc, "", "I I I", "", notHere}, {api.GetStatic, methodZ, "", "", "", noRef}, {api.GetStatic, classA, "", "", "", noRef}, {api.GetStatic, -1, "", "", "", noRef}, {api.GetStatic, behindAll, "", "", "", noRef}, {api.GetStatic, noKind, "", "", "", noRef},
		{api.PutStatic, fieldS, "I", "I LB;", "I|I", 0}, {api.PutStatic, fieldBS, "", "0", "|", 0}, {api.PutStatic, fieldBF, "", "I", "|", 0}, {api.PutStatic, fieldS, "", "LThread;", "", wrong}, {api.PutStatic, fieldX, "", "LNone;", "", wrong}, {api.PutStatic, fieldS, "", "", "", depth}, {api.PutStatic, fieldF, "", "", "", notHere}, {api.PutStatic, methodZ, "", "", "", noRef},
		{api.GetField, fieldF, "?", "0 LB;", "?|0 I", 0}, {api.GetField, fieldG, "", "0", "|[LB;", 0}, {api.GetField, fieldF, "", "LThread;", "", wrong}, {api.GetField, fieldF, "", "[LA;", "", wrong}, {api.GetField, fieldF, "", "", "", depth}, {api.GetField, fieldF, "", "I I I LA;", "", depth}, {api.GetField, fieldBF, "", "LB;", "", notHere}, {api.GetField, fieldS, "", "", "", notHere}, {api.GetField, fieldNone, "", "", "", notHere}, {api.GetField, anInt, "", "", "", noRef},
		{api.PutField, fieldF, "", "I LA; I", "|I", 0}, {api.PutField, fieldG, "", "0 [LB;", "|", 0}, {api.PutField, fieldG, "", "LB; [LA;", "", wrong}, {api.PutField, fieldF, "", "LA; 0", "", wrong}, {api.PutField, fieldF, "", "LThread; I", "", wrong}, {api.PutField, fieldF, "", "I LA;", "", wrong}, {api.PutField, fieldF, "", "I", "", depth}, {api.PutField, fieldF, "", "0", "", wrong}, {api.PutField, fieldF, "", "", "", depth}, {api.PutField, fieldS, "", "", "", notHere}, {api.PutField, behindAll, "", "", "", noRef},
		{api.Static, methodZ, "?", "0 I", "?|0", 0}, {api.Static, methodPrint, "", "I", "|", 0}, {api.Static, methodQ, "", "I", "|I LB;", 0}, {api.Static, methodQ, "", "I I I", "", depth}, {api.Static, methodE, "", "I [I LB; I", "|I I", 0}, {api.Static, methodE, "", "0 0 I", "|I", 0}, {api.Static, methodE, "", "I LB; [I", "", wrong}, {api.Static, methodE, "", "[I LThread; I", "", wrong}, {api.Static, methodE, "", "LB; LA; I", "", wrong}, {api.Static, methodE, "", "LA; I", "", depth}, {api.Static, methodE, "", "0 I", "", depth},
		{api.Static, methodU, "", "0", "", wrong}, {api.Static, methodZ, "", "", "", depth}, {api.Static, methodM, "", "0 I 0", "", notHere}, {api.Static, methodNone, "", "", "", notHere}, {api.Static, methodLess, "", "", "", notHere}, {api.Static, methodDesc, "", "", "", notHere}, {api.Static, fieldS, "", "", "", noRef}, {api.Static, -1, "", "", "", noRef},
		{api.Virtual, methodM, "?", "LB; I LA;", "?|[I", 0}, {api.Virtual, methodM, "", "0 I 0", "|[I", 0}, {api.Virtual, methodBM, "", "LB; I 0", "|[I", 0}, {api.Virtual, methodBM, "", "LA; I 0", "", wrong}, {api.Virtual, methodStart, "I", "I LB;", "I|I", 0}, {api.Virtual, methodStart, "", "LThread;", "", wrong}, {api.Virtual, methodWait, "", "LE;", "|", 0}, {api.Virtual, methodWait, "", "LIndex;", "", wrong}, {api.Virtual, methodM, "", "LB; 0 LA;", "", wrong}, {api.Virtual, methodM, "", "LB; I LThread;", "", wrong}, {api.Virtual, methodM, "", "I LA;", "", depth}, {api.Virtual, methodM, "", "0 0", "", wrong},
		{api.Virtual, methodZ, "", "LA; I", "", notHere}, {api.Virtual, methodNone, "", "", "", notHere}, {api.Virtual, fieldF, "", "", "", noRef}, {api.Virtual, classA, "", "", "", noRef},
	})
}

// P10.1: classes by their constants, and numbers of NewInts.
func TestClasses(t *testing.T) {
	mustStep(t, "()V", []one{
		{api.New, classA, "I", "0", "I|0 LA;", 0}, {api.New, classNone, "", "", "", notHere}, {api.New, arrayI, "", "", "", noRef}, {api.New, arrayB, "", "", "", noRef}, {api.New, arrayNone, "", "", "", noRef}, {api.New, classEmpty, "", "", "", noRef}, {api.New, classRef, "", "", "", noRef}, {api.New, classDigit, "", "", "", noRef}, {api.New, anInt, "", "", "", noRef}, {api.New, fieldF, "", "", "", noRef}, {api.New, -1, "", "", "", noRef}, {api.New, classA, "", "I I I", "", depth}, {api.New, classNone, "", "I I I", "", notHere},
		{api.NewRefs, classB, "I", "0 I", "I|0 [LB;", 0}, {api.NewRefs, classNone, "", "", "", notHere}, {api.NewRefs, arrayI, "", "", "", noRef}, {api.NewRefs, arrayNone, "", "I", "", noRef}, {api.NewRefs, classBracket, "", "I", "", noRef}, {api.NewRefs, classB, "", "0", "", wrong}, {api.NewRefs, classB, "", "", "", depth}, {api.NewRefs, classB, "", "I I I I", "", depth}, {api.NewRefs, behindAll, "", "I", "", noRef},
		{api.NewInts, 10, "I", "0 I", "I|0 [I", 0}, {api.NewInts, 9, "", "I", "", noOp}, {api.NewInts, 11, "", "", "", noOp}, {api.NewInts, 0, "", "0", "", noOp}, {api.NewInts, -10, "", "I", "", noOp}, {api.NewInts, 10, "", "0", "", wrong}, {api.NewInts, 10, "", "", "", depth},
		{api.Cast, classA, "I", "0 LObject;", "I|0 LA;", 0}, {api.Cast, classA, "", "[I", "|LA;", 0}, {api.Cast, arrayI, "", "LNone;", "|[I", 0}, {api.Cast, arrayB, "", "0", "|[LB;", 0}, {api.Cast, arrayNone, "", "", "", notHere}, {api.Cast, classNone, "", "0", "", notHere}, {api.Cast, classEmpty, "", "0", "", notHere}, {api.Cast, classRef, "", "0", "", notHere}, {api.Cast, classBracket, "", "0", "", notHere}, {api.Cast, classDigit, "", "0", "", notHere}, {api.Cast, anInt, "", "", "", noRef}, {api.Cast, methodZ, "", "", "", noRef}, {api.Cast, -1, "", "", "", noRef}, {api.Cast, classA, "", "I", "", wrong}, {api.Cast, classA, "", "?", "", wrong}, {api.Cast, classA, "", "", "", depth},
		{api.IsA, classA, "I", "0 LObject;", "I|0 I", 0}, {api.IsA, arrayI, "", "[LB;", "|I", 0}, {api.IsA, arrayB, "", "0", "|I", 0}, {api.IsA, arrayNone, "", "", "", notHere}, {api.IsA, classNone, "", "I", "", notHere}, {api.IsA, fieldF, "", "", "", noRef}, {api.IsA, classA, "", "I", "", wrong}, {api.IsA, classA, "", "", "", depth},
	})
}

// P10.1: what returns asks for the method's result ahead of the stack.
func TestReturns(t *testing.T) {
	mustStep(t, "(LA;)I", []one{{api.IReturn, 0, "?", "0 I", "?|0", 0}, {api.IReturn, 0, "", "0", "", wrong}, {api.IReturn, 0, "", "", "", depth}, {api.AReturn, 0, "", "0", "", wrong}, {api.AReturn, 0, "", "", "", wrong}, {api.Return, 0, "", "I", "", wrong}})
	mustStep(t, "(I)LA;", []one{{api.AReturn, 0, "?", "0 LB;", "?|0", 0}, {api.AReturn, 0, "", "0", "|", 0}, {api.AReturn, 0, "", "LThread;", "", wrong}, {api.AReturn, 0, "", "I", "", wrong}, {api.AReturn, 0, "", "", "", depth}, {api.IReturn, 0, "", "", "", wrong}, {api.IReturn, 0, "", "I", "", wrong}, {api.Return, 0, "", "LA;", "", wrong}})
	mustStep(t, "()[LA;", []one{{api.AReturn, 0, "", "[LB;", "|", 0}, {api.AReturn, 0, "", "LA;", "", wrong}})
	mustStep(t, "()LNone;", []one{{api.AReturn, 0, "", "LNone;", "", wrong}, {api.AReturn, 0, "", "0", "", wrong}, {api.AReturn, 0, "", "", "", depth}})
	mustStep(t, "(I)V", []one{{api.Return, 0, "I", "0 I I I", "I|0 I I I", 0}, {api.Return, 0, "", "", "|", 0}, {api.IReturn, 0, "", "I", "", wrong}, {api.AReturn, 0, "", "", "", wrong}})
	for _, none := range []string{"", "V", "I", "x", "()", "()VV", "(V)I"} {
		for _, op := range []int{api.IReturn, api.AReturn, api.Return} {
			mustStep(t, none, []one{{op, 0, "", "I", "", wrong}, {op, 0, "", "0", "", wrong}, {op, 0, "", "", "", wrong}})
		}
	}
}

// P10.1, R1: operations that are none are refused ahead of all else; without classes all are.
func TestNoOperations(t *testing.T) {
	k, c := withClasses(t)
	for op := -300; op <= 600; op++ {
		for _, a := range []int{-1, 0, classA, 10, math.MaxInt} {
			i := api.Inst{Op: op, A: a}
			if _, why := verify.Step(k, c, api.Method{}, i, api.Frame{}); code.Size(op) == 0 && why != api.ErrOp || why == api.ErrOp && code.Size(op) > 0 && (op != api.NewInts || a == 10) {
				t.Errorf("operation %d: %v", op, why)
			}
			if f, why := verify.Step(nil, c, api.Method{}, i, stands(1, "I", "I")); why != api.ErrArg || text(f) != "|" || f.At != 0 {
				t.Errorf("operation %d without classes: %v, %v", op, f, why)
			}
		}
	}
	for _, op := range []int{math.MinInt, -1 << 32, 1 << 32, 1<<32 + api.Nop, 256 + api.Nop, math.MaxInt} {
		if _, why := verify.Step(k, c, api.Method{}, api.Inst{Op: op}, api.Frame{}); why != api.ErrOp {
			t.Errorf("operation %d: %v", op, why)
		}
	}
}

// P10.1: numbers of locals and constants far from any.
func TestFarNumbers(t *testing.T) {
	k, c := withClasses(t)
	for _, a := range []int{math.MinInt, math.MinInt32, -1 << 32, 1 << 16, 1 << 32, 1<<32 + 1, math.MaxInt} {
		for op, want := range map[int]api.Errno{api.ILoad: local, api.ALoad: local, api.Inc: local, api.IStore: local, api.AStore: local, api.Ldc: noRef, api.New: noRef, api.GetField: noRef, api.Static: noRef, api.NewInts: noOp, api.Goto: api.OK, api.Push1: api.OK} {
			stack := "I"
			if op == api.AStore {
				stack = "0"
			}
			if _, why := verify.Step(k, c, api.Method{Stack: 3}, api.Inst{Op: op, A: a}, stands(0, "I", stack)); why != want {
				t.Errorf("%s %d: %v", code.Name(op), a, why)
			}
		}
	}
}

// P10.1: ErrDepth of what is pushed, by m.Stack alone; what pushes nothing goes by any.
func TestMost(t *testing.T) {
	k, c := withClasses(t)
	for _, most := range []int{math.MinInt, -1, 0, 1, 2, 16, 17, 1000, math.MaxInt} {
		for _, size := range []int{0, 1, 2, 15, 16, 17, 999, 1000} {
			f := api.Frame{Stack: slices.Repeat([]string{"I"}, size)}
			for _, x := range []struct{ op, pops, pushes int }{{api.Nop, 0, 0}, {api.Const0, 0, 1}, {api.Pop, 1, 0}, {api.Dup, 1, 2}, {api.Swap, 2, 2}, {api.Add, 2, 1}, {api.Neg, 1, 1}, {api.CmpEq, 2, 0}, {api.Return, 0, 0}} {
				want, left := api.OK, size-x.pops+x.pushes
				if left < x.pushes || x.pushes > 0 && left > most {
					want, left = api.ErrDepth, 0
				}
				if g, why := verify.Step(k, c, api.Method{Desc: "()V", Stack: most}, api.Inst{Op: x.op}, f); why != want || len(g.Stack) != left {
					t.Errorf("%s with %d of %d on the stack: %d, %v", code.Name(x.op), size, most, len(g.Stack), why)
				}
			}
		}
	}
}

// P10.1: classes that come later are there then.
func TestClassesThatCome(t *testing.T) {
	k, c := withClasses(t)
	steps := []api.Inst{{Op: api.New, A: classNone}, {Op: api.Cast, A: arrayNone}, {Op: api.GetStatic, A: fieldNone}, {Op: api.Static, A: methodNone}, {Op: api.Static, A: methodU}}
	stacks := []string{"", "0", "", "I", "LNone;"}
	for n, i := range steps {
		if _, why := verify.Step(k, c, api.Method{Stack: 2}, i, stands(0, "", stacks[n])); why != notHere && n < 4 || why != wrong && n == 4 {
			t.Errorf("%v: %v", i, why)
		}
	}
	none := api.Class{Name: "None", Super: "Object", Fields: []api.Field{{Name: "f", Desc: "I", Static: true}}, Methods: []api.Method{{Name: "z", Desc: "(I)V", Static: true, Locals: 1}}}
	if why := k.Add(none); why != api.OK {
		t.Fatal(why)
	}
	for n, i := range steps {
		if _, why := verify.Step(k, c, api.Method{Stack: 2}, i, stands(0, "", stacks[n])); why != api.OK {
			t.Errorf("%v, with the class: %v", i, why)
		}
	}
}
