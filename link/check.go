package link

import (
	"slices"

	"loom/api"
)

// check: the error of the first thing, in the chapter's order, by which the classes don't fit together.
func (p *Program) check() api.Errno {
	if err := firstError(p.classes, p.checkMembers); err != api.OK {
		return err
	}
	if err := firstError(p.classes, p.checkPool); err != api.OK {
		return err
	}
	return p.checkMain()
}

// firstError asks one after the other, until one is refused.
func firstError[T any](list []T, ask func(T) api.Errno) api.Errno {
	at := 0
next:
	if at == len(list) {
		return api.OK
	}
	if err := ask(list[at]); err != api.OK {
		return err
	}
	at++
	goto next
}

// checkMembers: what a class's fields and methods are made of, and whether those above it go with them.
func (p *Program) checkMembers(c linked) api.Errno {
	if !p.hasClassesOf(c.class) {
		return api.ErrNoClass
	}
	above := p.hier.Ancestors(c.class.Name)[1:]
	for _, name := range above {
		if shareField(c.class, p.named(name)) {
			return api.ErrTwice
		}
	}
	// Each one above, not the nearest alone: that one may itself not go with one further above.
	for _, name := range above {
		if methodsDiffer(c.class, p.named(name)) {
			return api.ErrTable
		}
	}
	return api.OK
}

// hasClassesOf: whether all classes are there that the types of c's fields and methods name.
func (p *Program) hasClassesOf(c api.Class) bool {
	for _, f := range c.Fields {
		if p.isStrange(f.Type) {
			return false
		}
	}
	for _, m := range c.Methods {
		if p.isStrange(m.Ret) || slices.ContainsFunc(m.Params, p.isStrange) {
			return false
		}
	}
	return true
}

// isStrange: whether t is of a class that isn't there.
func (p *Program) isStrange(t api.Type) bool { return t.Kind == api.TRef && !p.hier.Has(t.Class) }

// shareField: whether a field of one has the name of one of the other's.
func shareField(one, other api.Class) bool {
	for _, f := range one.Fields {
		if slices.ContainsFunc(other.Fields, func(g api.Field) bool { return f.Name == g.Name }) {
			return true
		}
	}
	return false
}

// methodsDiffer: whether a method of one has the name, but not the types, of one of the other's.
func methodsDiffer(one, other api.Class) bool {
	for _, m := range one.Methods {
		if slices.ContainsFunc(other.Methods, func(n api.Method) bool { return m.Name == n.Name && !sameTypes(m, n) }) {
			return true
		}
	}
	return false
}

func sameTypes(a, b api.Method) bool { return a.Ret == b.Ret && slices.Equal(a.Params, b.Params) }

// checkPool: whether all that a class's constants name is there.
func (p *Program) checkPool(c linked) api.Errno { return firstError(c.class.Pool, p.checkConst) }

func (p *Program) checkConst(k api.Const) api.Errno {
	// A number names nothing.
	if k.Kind == api.CInt || k.Kind == api.CCplx {
		return api.OK
	}
	if !p.hier.Has(k.Class) {
		return api.ErrNoClass
	}
	if !p.hasMemberOf(k) {
		return api.ErrMember
	}
	return api.OK
}

// hasMemberOf: whether the class that k names has the field or the method that k names, if k names one.
func (p *Program) hasMemberOf(k api.Const) bool {
	there := true
	switch k.Kind {
	case api.CField:
		_, there = p.Field(k.Class, k.Name)
	case api.CMethod:
		_, there = p.find(k.Class, k.Name)
	}
	return there
}

// checkMain: whether there is a method to begin with.
func (p *Program) checkMain() api.Errno {
	_, m, there := p.Method("Main", "main")
	if !there || len(m.Params) > 0 || m.Ret.Kind != api.TVoid {
		return api.ErrMain
	}
	return api.OK
}
