package loader

import "carafe/api"

// Agree binds two loaders, and all that agree with them, to one id for a name.
func (l *Loaders) Agree(a, b int, name string) api.Errno {
	if !l.has(a) || !l.has(b) {
		return api.ErrArg
	}
	one, p := l.told(a, name)
	other, q := l.told(b, name)
	if p && q && one != other {
		return api.ErrBound
	}
	l.join(a, b, name)
	return api.OK
}

// told answers the one id as which those have loaded a name who agree on it with n, n among them.
func (l *Loaders) told(n int, name string) (int, bool) {
	parents := l.parents[name]
	for m := range l.each {
		if id, ok := l.Loaded(m, name); ok && root(parents, m) == root(parents, n) {
			return id, true
		}
	}
	return 0, false
}

// join makes one tree of two. A list of parents has room for each loader that there may be, and each one is its own parent at first.
func (l *Loaders) join(a, b int, name string) {
	parents := l.parents[name]
	if parents == nil {
		parents = make([]int, api.MaxLoaders)
		for n := range parents {
			parents[n] = n
		}
		l.parents[name] = parents
	}
	parents[root(parents, a)] = root(parents, b)
}

// root is the one of those who agree that has no other one as its parent; who agrees with nobody is alone. Who is asked comes nearer to it, so that ways stay short.
func root(parents []int, n int) int {
	if parents == nil {
		return n
	}
	for parents[n] != n {
		parents[n] = parents[parents[n]]
		n = parents[n]
	}
	return n
}
