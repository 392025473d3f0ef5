package interp

import (
	"slices"

	"loom/api"
	"loom/link"
)

// class: what is asked of a class again and again, found once.
type class struct {
	name    string
	above   []int // the numbers of its ancestors, its own too
	words   int
	refs    []int              // which words of an object may refer to another one
	methods map[string]*method // which one is called, by its name
}

// method of a program that is accepted.
type method struct {
	owner    string // the class that has it
	name     string
	locals   int
	code     []api.Ins
	handlers []api.Handler
	pool     []constant
	tops     []uint64 // by instructions: of each local a bit, 1 where it is TTop
}

// constant: what a class's constant stands for.
type constant struct {
	value api.Value // of a CInt, a CCplx
	class int       // of a CClass, its number
	slot  api.Slot  // of a CField
	name  string    // of a CMethod
	takes int       // of a CMethod: how many its call takes, the receiver too
	gives int       // of a CMethod: the kind of its result
}

// place of a method: its class, its name.
type place struct{ class, name string }

// load: the classes of a program, by their numbers.
func load(p *link.Program) []class {
	methods := map[place]*method{}
	for number := 0; p.Name(number) != ""; number++ {
		c, _ := p.Class(p.Name(number))
		pool := constantsOf(p, c.Pool)
		for _, m := range c.Methods {
			methods[place{c.Name, m.Name}] = loadMethod(c.Name, m, pool)
		}
	}
	var classes []class
	for number := 0; p.Name(number) != ""; number++ {
		classes = append(classes, loadClass(p, p.Name(number), methods))
	}
	return classes
}

func loadClass(p *link.Program, name string, methods map[place]*method) class {
	layout, _ := p.Layout(name)
	c := class{name: name, words: layout.Words, methods: map[string]*method{}}
	for _, above := range layout.Ancestors {
		c.above = append(c.above, p.Number(above))
	}
	for _, s := range layout.Fields {
		if s.Field.Type.Kind == api.TArr || s.Field.Type.Kind == api.TRef {
			c.refs = append(c.refs, s.At)
		}
	}
	for _, e := range layout.Table {
		c.methods[e.Name] = methods[place{e.Class, e.Name}]
	}
	return c
}

func loadMethod(owner string, m api.Method, pool []constant) *method {
	loaded := &method{owner: owner, name: m.Name, locals: m.Locals, code: m.Code, handlers: m.Handlers, pool: pool}
	loaded.tops = topsOf(loaded, m.Params)
	return loaded
}

func constantsOf(p *link.Program, pool []api.Const) []constant {
	var list []constant
	for _, k := range pool {
		list = append(list, constantOf(p, k))
	}
	return list
}

// constantOf: Link has seen to it that all that k names is there.
func constantOf(p *link.Program, k api.Const) constant {
	switch k.Kind {
	case api.CInt:
		return constant{value: integer(k.Int)}
	case api.CCplx:
		return constant{value: complexNumber(k.Cplx)}
	case api.CClass:
		return constant{class: p.Number(k.Class)}
	case api.CField:
		slot, _ := p.Field(k.Class, k.Name)
		return constant{slot: slot}
	}
	_, m, _ := p.Method(k.Class, k.Name)
	return constant{name: k.Name, takes: 1 + len(m.Params), gives: m.Ret.Kind}
}

// handles: whether an object of that class that is thrown at an instruction is for a handler of m.
func (m *method) handles(h api.Handler, pc int, thrown class) bool {
	if pc < h.From || pc >= h.To {
		return false
	}
	return h.Class < 0 || slices.Contains(thrown.above, m.pool[h.Class].class)
}
