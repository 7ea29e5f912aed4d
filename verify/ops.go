package verify

import (
	"slices"
	"strings"

	"carafe/api"
	"carafe/descr"
	"carafe/types"
)

const ofInts = 10 // what NewInts must name

// do does the operation; where one asks for more than others do, it falls through to them.
func (s *step) do() {
	switch s.i.Op {
	case api.Nop, api.Goto:
	case api.Null:
		s.push(null)
	case api.Ldc:
		s.constant(api.ConstInt)
		fallthrough
	case api.ConstM1, api.Const0, api.Const1, api.Const2, api.Const3, api.Const4, api.Const5, api.Push1, api.Push2:
		s.push(number)
	case api.ILoad, api.ALoad, api.Inc, api.IStore, api.AStore:
		s.doLocal()
	case api.IaLoad, api.AaLoad, api.IaStore, api.AaStore, api.Length:
		s.doArray()
	case api.Pop, api.Dup, api.Swap:
		s.doStack()
	case api.Add, api.Sub, api.Mul, api.Div, api.Rem, api.Shl, api.Shr, api.Ushr, api.And, api.Or, api.Xor:
		s.take(number)
		fallthrough
	case api.Neg:
		s.take(number)
		s.push(number)
	case api.CmpEq, api.CmpNe, api.CmpLt, api.CmpGe, api.CmpGt, api.CmpLe:
		s.take(number)
		fallthrough
	case api.IfEq, api.IfNe, api.IfLt, api.IfGe, api.IfGt, api.IfLe:
		s.take(number)
	case api.RefEq, api.RefNe:
		s.pop(types.IsRef)
		fallthrough
	case api.IfNull, api.IfSome, api.Enter, api.Exit:
		s.pop(types.IsRef)
	case api.IReturn, api.AReturn, api.Return:
		s.doReturn()
	case api.GetStatic, api.PutStatic, api.GetField, api.PutField:
		s.doField()
	case api.Static, api.Virtual:
		s.doCall()
	case api.New, api.NewInts, api.NewRefs:
		s.doNew()
	case api.Cast, api.IsA:
		s.doCast()
	case api.Throw:
		s.take(descr.Ref(throwable))
	default:
		s.refuse(api.ErrOp)
	}
}

func (s *step) doLocal() {
	switch s.i.Op {
	case api.ILoad:
		s.push(s.local(isNumber))
	case api.ALoad:
		s.push(s.local(types.IsRef))
	case api.Inc:
		s.local(isNumber)
	case api.IStore:
		s.set(s.pop(isNumber))
	case api.AStore:
		s.set(s.pop(types.IsRef))
	}
}

func (s *step) doArray() {
	switch s.i.Op {
	case api.IaLoad:
		s.take(number, numbers)
		s.push(number)
	case api.IaStore:
		s.take(number, number, numbers)
	case api.AaLoad:
		s.take(number)
		s.push(elem(s.pop(isArrayOfRefs)))
	case api.AaStore:
		s.pop(types.IsRef)
		s.take(number)
		s.pop(isArrayOfRefs)
	case api.Length:
		s.pop(isArray)
		s.push(number)
	}
}

func (s *step) doStack() {
	last := s.pop(isAny)
	switch s.i.Op {
	case api.Dup:
		s.push(last, last)
	case api.Swap:
		s.push(last, s.pop(isAny))
	}
}

func (s *step) doReturn() {
	_, result, _ := descr.Method(s.m.Desc)
	right := isVoid
	switch s.i.Op {
	case api.IReturn:
		right = isNumber
	case api.AReturn:
		right = types.IsRef
	}
	if !right(result) {
		s.refuse(api.ErrType)
	}
	if !isVoid(result) {
		s.take(result)
	}
}

func (s *step) doField() {
	x := s.field(s.i.Op == api.GetStatic || s.i.Op == api.PutStatic)
	switch s.i.Op {
	case api.PutStatic:
		s.take(x.Desc)
	case api.PutField:
		s.take(x.Desc, descr.Ref(x.Class))
	case api.GetField:
		s.take(descr.Ref(x.Class))
		fallthrough
	case api.GetStatic:
		s.push(x.Desc)
	}
}

func (s *step) doCall() {
	x := s.method(s.i.Op == api.Static)
	params, result, _ := descr.Method(x.Desc)
	slices.Reverse(params)
	s.take(params...)
	if s.i.Op == api.Virtual {
		s.take(descr.Ref(x.Class))
	}
	if !isVoid(result) {
		s.push(result)
	}
}

func (s *step) doNew() {
	switch s.i.Op {
	case api.New:
		s.push(s.made())
	case api.NewRefs:
		t := s.made()
		s.take(number)
		s.push("[" + t)
	case api.NewInts:
		if s.i.A != ofInts {
			s.refuse(api.ErrOp)
		}
		s.take(number)
		s.push(numbers)
	}
}

func (s *step) doCast() {
	t := s.constant(api.ConstClass).Class
	if !strings.HasPrefix(t, "[") {
		t = descr.Ref(t)
	}
	s.known(t)
	s.pop(types.IsRef)
	if s.i.Op == api.IsA {
		t = number
	}
	s.push(t)
}

func isAny(string) bool { return true }

func isNumber(t string) bool { return t == number }

func isVoid(t string) bool { return t == void }

func isArray(t string) bool { return t == null || strings.HasPrefix(t, "[") }

func isArrayOfRefs(t string) bool { return t == null || strings.HasPrefix(t, "[L") }

// elem answers what an array holds; of null null, since nothing is ever had from it.
func elem(t string) string {
	if t == null {
		return null
	}
	e, _ := descr.Elem(t)
	return e
}
