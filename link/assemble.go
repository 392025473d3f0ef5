package link

import (
	"slices"

	"loom/api"
	"loom/types"
)

// linked: a class, and what its objects have of it and of those above it.
type linked struct {
	class   api.Class
	slots   []api.Slot       // Object's first
	words   int              // of all slots
	fields  map[string]int   // places in slots
	methods map[string]place // of the nearest ones
}

// place of a method: the number of its class, which one of that class's it is.
type place struct{ class, method int }

// assemble: the program of the classes of hier, whether they fit together or not.
func assemble(hier *types.Hier, l []api.Class) *Program {
	p := &Program{hier: hier, number: map[string]int{}}
	p.add(api.Class{Name: "Object"})
	p.add(api.Class{Name: "Fault", Fields: []api.Field{{Name: "code", Type: api.Type{Kind: api.TInt}}}})
	for _, c := range l {
		p.add(copyClass(c))
	}
	// All classes ahead of any that is laid out: one may stand ahead of those above it.
	for number := range p.classes {
		p.layOut(number)
	}
	return p
}

// add gives out numbers: of Object 0, of Fault 1, of the others as they come.
func (p *Program) add(c api.Class) {
	p.number[c.Name] = len(p.classes)
	p.classes = append(p.classes, linked{class: c, fields: map[string]int{}, methods: map[string]place{}})
}

// layOut goes down from Object, so that slots begin with those of the class above and the nearest method stays.
func (p *Program) layOut(number int) {
	c := &p.classes[number]
	way := p.hier.Ancestors(c.class.Name)
	left := len(way)
down:
	if left == 0 {
		return
	}
	left--
	c.take(p.number[way[left]], p.named(way[left]))
	goto down
}

// take: what objects of c have of a class of that number, itself or above it.
func (c *linked) take(number int, owner api.Class) {
	for _, f := range owner.Fields {
		c.fields[f.Name] = len(c.slots)
		c.slots = append(c.slots, api.Slot{Class: owner.Name, Field: f, At: c.words})
		c.words += types.Words(f.Type)
	}
	for at, m := range owner.Methods {
		c.methods[m.Name] = place{class: number, method: at}
	}
}

// named: the class of a name that is there.
func (p *Program) named(name string) api.Class { return p.classes[p.number[name]].class }

func copyClass(c api.Class) api.Class {
	c.Pool = slices.Clone(c.Pool)
	c.Fields = slices.Clone(c.Fields)
	c.Methods = slices.Clone(c.Methods)
	for at, m := range c.Methods {
		c.Methods[at] = copyMethod(m)
	}
	return c
}

func copyMethod(m api.Method) api.Method {
	m.Params = slices.Clone(m.Params)
	m.Code = slices.Clone(m.Code)
	m.Handlers = slices.Clone(m.Handlers)
	return m
}
