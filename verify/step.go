package verify

import (
	"carafe/api"
	"carafe/descr"
	"carafe/frames"
	"carafe/kin"
	"carafe/pool"
	"carafe/types"
)

const (
	number  = "I"
	numbers = "[I"
	null    = "0"
	void    = "V"
)

// step is an instruction that is being done. Its first refusal stays, and from then on nothing changes: so an operation asks for one thing behind the other, in the order in which the chapter names what is refused.
type step struct {
	k   *kin.Kin
	c   api.Class
	m   api.Method
	i   api.Inst
	f   api.Frame
	why api.Errno
}

// Step answers the frame behind instruction i of c's method m, which meets f.
func Step(k *kin.Kin, c api.Class, m api.Method, i api.Inst, f api.Frame) (api.Frame, api.Errno) {
	if k == nil {
		return api.Frame{}, api.ErrArg
	}
	f = copied(f)
	f.At = 0
	s := &step{k: k, c: c, m: m, i: i, f: f}
	s.do()
	if s.why != api.OK {
		return api.Frame{}, s.why
	}
	return s.f, api.OK
}

func (s *step) refuse(why api.Errno) {
	if s.why == api.OK {
		s.why = why
	}
}

// constant answers the entry of the pool that the instruction names.
func (s *step) constant(kind int) api.Const {
	x, why := pool.Get(s.c.Pool, s.i.A, kind)
	s.refuse(why)
	return x
}

// local answers the local that the instruction reads.
func (s *step) local(right func(string) bool) string {
	if s.i.A < 0 || s.i.A >= len(s.f.Locals) {
		s.refuse(api.ErrLocal)
		return ""
	}
	t := s.f.Locals[s.i.A]
	if !right(t) {
		s.refuse(api.ErrType)
	}
	return t
}

// pop takes the last one off the stack and answers it.
func (s *step) pop(right func(string) bool) string {
	if s.why != api.OK {
		return ""
	}
	f, l, why := frames.Pop(s.f, 1)
	if why != api.OK {
		s.refuse(why)
		return ""
	}
	if !right(l[0]) {
		s.refuse(api.ErrType)
	}
	s.f = f
	return l[0]
}

// take pops what fits each of the types, the last of the stack for the first of them.
func (s *step) take(l ...string) {
	for _, to := range l {
		s.pop(func(from string) bool { return types.Fits(s.k, from, to) })
	}
}

// set makes t the local that the instruction names.
func (s *step) set(t string) {
	if s.why == api.OK {
		s.f, s.why = frames.Set(s.f, s.i.A, t)
	}
}

func (s *step) push(l ...string) {
	if s.why == api.OK {
		s.f, s.why = frames.Push(s.f, s.m.Stack, l...)
	}
}

// field answers the constant of a field that there is, Static or not as is asked.
func (s *step) field(static bool) api.Const {
	x := s.constant(api.ConstField)
	if _, f, ok := s.k.Field(x.Class, x.Name, x.Desc); !ok || f.Static != static {
		s.refuse(api.ErrNone)
	}
	return x
}

// method answers the constant of a method that there is, Static or not as is asked.
func (s *step) method(static bool) api.Const {
	x := s.constant(api.ConstMethod)
	if _, m, ok := s.k.Method(x.Class, x.Name, x.Desc); !ok || m.Static != static {
		s.refuse(api.ErrNone)
	}
	return x
}

// made answers the type of an object of the class that the constant names. An array's own constant makes nothing: New and NewRefs name a class.
func (s *step) made() string {
	x := s.constant(api.ConstClass)
	if !descr.Name(x.Class) {
		s.refuse(api.ErrRef)
	}
	return s.known(descr.Ref(x.Class))
}

func (s *step) known(t string) string {
	if !types.Known(s.k, t) {
		s.refuse(api.ErrNone)
	}
	return t
}
