package verify

import (
	"cmp"
	"slices"

	"carafe/api"
	"carafe/code"
	"carafe/descr"
	"carafe/frames"
	"carafe/kin"
)

// walk goes once through the code of a method. What comes from elsewhere is known by the method's frames alone, so that no instruction is looked at again.
type walk struct {
	k      *kin.Kin
	c      api.Class
	m      api.Method
	comes  bool      // does anything come from the instruction ahead?
	coming api.Frame // what does
}

// through goes over all instructions of the method.
func (w *walk) through(l []api.Inst) ([]api.Frame, api.Errno, int) {
	var states []api.Frame
	for _, i := range l {
		met, why := w.over(i)
		if why != api.OK {
			return nil, why, i.At
		}
		met.At = i.At
		states = append(states, met)
	}
	return states, api.OK, 0
}

// over goes over instruction i and answers what it meets.
func (w *walk) over(i api.Inst) (api.Frame, api.Errno) {
	met, ok := w.meet(i.At)
	if !ok || !w.caught(i.At, met) {
		return api.Frame{}, api.ErrFrame
	}
	behind, why := Step(w.k, w.c, w.m, i, met)
	if why != api.OK {
		return api.Frame{}, why
	}
	if code.Branch(i.Op) && !w.fitsAt(behind, i.A) {
		return api.Frame{}, api.ErrFrame
	}
	w.comes, w.coming = !code.Ends(i.Op), behind
	return met, api.OK
}

// meet answers what is met at at: the frame there, or without one what comes from ahead; false, if what comes does not fit, or nothing is met.
func (w *walk) meet(at int) (api.Frame, bool) {
	f, ok := w.frame(at)
	if !ok {
		return w.coming, w.comes
	}
	if w.comes && !frames.Fits(w.k, w.coming, f) {
		return api.Frame{}, false
	}
	return copied(f), true
}

// caught tells whether each handler over at may go on with the locals that are met there: an instruction that throws has not changed them.
func (w *walk) caught(at int, met api.Frame) bool {
	for _, h := range w.m.Handlers {
		if at < h.From || at >= h.To {
			continue
		}
		thrown := api.Frame{Locals: met.Locals, Stack: []string{descr.Ref(h.Type)}}
		if !w.fitsAt(thrown, h.At) {
			return false
		}
	}
	return true
}

// fitsAt tells whether there is a frame at at that f fits.
func (w *walk) fitsAt(f api.Frame, at int) bool {
	there, ok := w.frame(at)
	return ok && frames.Fits(w.k, f, there)
}

// frame answers the method's frame at at. Their places rise: flow.Check has let them by.
func (w *walk) frame(at int) (api.Frame, bool) {
	n, ok := slices.BinarySearchFunc(w.m.Frames, at, func(f api.Frame, at int) int { return cmp.Compare(f.At, at) })
	if !ok {
		return api.Frame{}, false
	}
	return w.m.Frames[n], true
}

func copied(f api.Frame) api.Frame {
	return api.Frame{At: f.At, Locals: slices.Clone(f.Locals), Stack: slices.Clone(f.Stack)}
}
