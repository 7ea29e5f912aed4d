package kin

import (
	"slices"

	"carafe/api"
)

// copyClass answers c with all its lists in new memory, however they shared theirs.
func copyClass(c api.Class) api.Class {
	c.Pool = slices.Clone(c.Pool)
	c.Fields = slices.Clone(c.Fields)
	c.Methods = slices.Clone(c.Methods)
	for n, m := range c.Methods {
		c.Methods[n] = copyMethod(m)
	}
	return c
}

func copyMethod(m api.Method) api.Method {
	m.Code = slices.Clone(m.Code)
	m.Handlers = slices.Clone(m.Handlers)
	m.Frames = slices.Clone(m.Frames)
	for n, f := range m.Frames {
		m.Frames[n].Locals = slices.Clone(f.Locals)
		m.Frames[n].Stack = slices.Clone(f.Stack)
	}
	return m
}
