package kin

import "carafe/api"

// given are the classes that a new Kin has, each behind its super. Only they have native methods.
func given() []api.Class {
	l := []api.Class{
		{Name: "Object", Methods: []api.Method{native("wait", "()V"), native("notify", "()V"), native("notifyAll", "()V")}},
		{Name: "Throwable", Super: "Object"},
	}
	for _, name := range []string{"Arithmetic", "NullPointer", "Index", "NegativeSize", "Cast", "Store", "Monitor", "Memory", "Stack"} {
		l = append(l, api.Class{Name: name, Super: "Throwable"})
	}
	run := api.Method{Name: "run", Desc: "()V", Locals: 1, Code: []byte{api.Return}}
	return append(l,
		api.Class{Name: "Thread", Super: "Object", Methods: []api.Method{run, native("start", "()V"), native("join", "()V")}},
		api.Class{Name: "System", Super: "Object", Methods: []api.Method{nativeStatic("print", "(I)V"), nativeStatic("sleep", "(I)V")}},
	)
}

func native(name, desc string) api.Method {
	return api.Method{Name: name, Desc: desc, Native: true}
}

func nativeStatic(name, desc string) api.Method {
	return api.Method{Name: name, Desc: desc, Native: true, Static: true}
}
