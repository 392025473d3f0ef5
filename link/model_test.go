package link

import (
	"math/rand"
	"slices"
	"strings"
	"testing"

	"loom/api"
	"loom/class"
	"loom/types"
)

// model: the chapter, word by word, by lists alone.
type model struct{ list []api.Class }

func (m model) class(name string) (api.Class, bool) {
	switch name {
	case "Object":
		return api.Class{Name: name}, true
	case "Fault":
		return api.Class{Name: name, Fields: []api.Field{field("code", plain(api.TInt))}}, true
	}
	for _, c := range m.list {
		if c.Name == name {
			return c, true
		}
	}
	return api.Class{}, false
}

// ancestors: the class itself first; none, if it isn't there.
func (m model) ancestors(name string) []api.Class {
	c, ok := m.class(name)
	if !ok {
		return nil
	}
	if name == "Object" {
		return []api.Class{c}
	}
	super := c.Super
	if super == "" {
		super = "Object"
	}
	return append([]api.Class{c}, m.ancestors(super)...)
}

func (m model) slots(name string) (slots []api.Slot, words int) {
	for _, c := range slices.Backward(m.ancestors(name)) {
		for _, f := range c.Fields {
			slots = append(slots, api.Slot{Class: c.Name, Field: f, At: words})
			words += types.Words(f.Type)
		}
	}
	return slots, words
}

func (m model) field(class, name string) (api.Slot, bool) {
	slots, _ := m.slots(class)
	for _, s := range slots {
		if s.Field.Name == name {
			return s, true
		}
	}
	return api.Slot{}, false
}

func (m model) method(class, name string) (string, api.Method, bool) {
	for _, c := range m.ancestors(class) {
		for _, f := range c.Methods {
			if f.Name == name {
				return c.Name, f, true
			}
		}
	}
	return "", api.Method{}, false
}

func (m model) layout(name string) (api.Layout, bool) {
	l := api.Layout{Name: name}
	l.Fields, l.Words = m.slots(name)
	for _, c := range m.ancestors(name) {
		l.Ancestors = append(l.Ancestors, c.Name)
		for _, f := range c.Methods {
			if who, _, _ := m.method(name, f.Name); who == c.Name {
				l.Table = append(l.Table, api.Entry{Name: f.Name, Class: who})
			}
		}
	}
	slices.SortFunc(l.Table, func(a, b api.Entry) int { return strings.Compare(a.Name, b.Name) })
	if l.Ancestors == nil {
		return api.Layout{}, false
	}
	return l, true
}

// strange: a TRef whose class isn't there.
func (m model) strange(t api.Type) bool {
	_, there := m.class(t.Class)
	return t.Kind == api.TRef && !there
}

// members: the first error of a class's own fields and methods.
func (m model) members(c api.Class) api.Errno {
	all := []api.Type{}
	for _, f := range c.Fields {
		all = append(all, f.Type)
	}
	for _, f := range c.Methods {
		all = append(append(all, f.Params...), f.Ret)
	}
	if slices.ContainsFunc(all, m.strange) {
		return api.ErrNoClass
	}
	err := api.OK
	for _, above := range m.ancestors(c.Name)[1:] {
		for _, f := range c.Fields {
			for _, g := range above.Fields {
				if f.Name == g.Name {
					return api.ErrTwice
				}
			}
		}
		for _, f := range c.Methods {
			for _, g := range above.Methods {
				if f.Name == g.Name && (f.Ret != g.Ret || !slices.Equal(f.Params, g.Params)) {
					err = api.ErrTable
				}
			}
		}
	}
	return err
}

func (m model) constant(k api.Const) api.Errno {
	_, there := m.class(k.Class)
	_, asField := m.field(k.Class, k.Name)
	_, _, asMethod := m.method(k.Class, k.Name)
	switch {
	case k.Kind < api.CClass:
		return api.OK
	case !there:
		return api.ErrNoClass
	case k.Kind == api.CField && !asField, k.Kind == api.CMethod && !asMethod:
		return api.ErrMember
	}
	return api.OK
}

// link: what Link answers of the list.
func (m model) link() api.Errno {
	var names, supers []string
	for _, c := range m.list {
		if err := class.Check(c); err != api.OK {
			return err
		}
		names, supers = append(names, c.Name), append(supers, c.Super)
	}
	if _, err := types.New(names, supers); err != api.OK {
		return err
	}
	for _, c := range m.list {
		if err := m.members(c); err != api.OK {
			return err
		}
	}
	for _, c := range m.list {
		for _, k := range c.Pool {
			if err := m.constant(k); err != api.OK {
				return err
			}
		}
	}
	_, there := m.class("Main")
	if _, f, ok := m.method("Main", "main"); !there || !ok || len(f.Params) != 0 || f.Ret.Kind != api.TVoid {
		return api.ErrMain
	}
	return api.OK
}

// maker: of programs of few names, so that they meet often.
type maker struct {
	*rand.Rand
	odd int // one of so many names is of nothing
}

func (r maker) among(words string) string {
	if r.Intn(r.odd) == 0 {
		return "X"
	}
	list := strings.Fields(words)
	return list[r.Intn(len(list))]
}

func (r maker) aType() api.Type {
	if r.Intn(2) == 0 {
		return plain(1 + r.Intn(3))
	}
	return ref(r.among("A B C D Main Object Fault"))
}

func (r maker) aMethod(name string) api.Method {
	m := void(name)
	m.Code = append(make([]api.Ins, r.Intn(5)), m.Code...)
	if r.Intn(6) == 0 {
		m.Params, m.Locals = []api.Type{r.aType()}, 2
	}
	if r.Intn(6) == 0 {
		m.Ret = r.aType()
	}
	return m
}

func (r maker) aConst() api.Const {
	owner := r.among("A B C D Main Object Fault")
	switch r.Intn(4) {
	case 0:
		return api.Const{Kind: api.CInt, Int: r.Int63()}
	case 1:
		return ofClass(owner)
	case 2:
		return ofField(owner, r.among("u v w x y z code"))
	}
	return ofMethod(owner, r.among("f g h main"))
}

func (r maker) aClass(name string, supers string) api.Class {
	c := having(name, r.among(supers))
	for _, name := range strings.Fields("u v w x y z code") {
		if r.Intn(9) == 0 {
			c.Fields = append(c.Fields, api.Field{Name: name, Type: r.aType(), Volatile: r.Intn(2) == 0})
		}
	}
	for _, name := range strings.Fields("h f main g") {
		if r.Intn(4) == 0 {
			c.Methods = append(c.Methods, r.aMethod(name))
		}
	}
	for range r.Intn(3) {
		c.Pool = append(c.Pool, r.aConst())
	}
	return c
}

func (r maker) aProgram() []api.Class {
	l := []api.Class{r.aClass("A", "Object Fault"), r.aClass("B", "A A Fault"), r.aClass("C", "A B Object"), r.aClass("D", "C B A"), r.aClass("Main", "A B C D Object")}
	if r.Intn(3) > 0 {
		l[4].Methods = []api.Method{void("main")}
	}
	if r.Intn(8) == 0 {
		l[r.Intn(5)].Super = r.among("A B C D")
	}
	if r.Intn(12) == 0 {
		l[r.Intn(5)].Name = r.among("A B C D Object")
	}
	r.Shuffle(len(l), func(i, j int) { l[i], l[j] = l[j], l[i] })
	return l
}

func TestLinkLikeTheModel(t *testing.T) {
	told := map[api.Errno]int{}
	for seed := range 12000 {
		r := maker{rand.New(rand.NewSource(int64(seed))), 20 + 20*(seed%4)}
		m := model{r.aProgram()}
		want := m.link()
		told[want]++
		p, err := Link(m.list)
		if err != want || (p == nil) != (want != api.OK) {
			t.Fatalf("P7.1: Link(%+v): %d, not %d", m.list, err, want)
		}
		if err == api.OK {
			expectLikeModel(t, p, m)
			expectBeginsLikeAbove(t, p)
		}
	}
	for _, err := range []api.Errno{api.OK, api.ErrTwice, api.ErrNoClass, api.ErrCircle, api.ErrTable, api.ErrMember, api.ErrMain} {
		if told[err] < 50 {
			t.Errorf("only %d programs for error %d: the test asks for too little", told[err], err)
		}
	}
}

func expectLikeModel(t *testing.T, p *Program, m model) {
	t.Helper()
	for _, name := range strings.Fields("A B C D Main Object Fault X") {
		want, there := m.layout(name)
		if got, ok := p.Layout(name); ok != there || show(got) != show(want) {
			t.Errorf("P7.2: Layout(%q) of %+v: %+v, not %+v", name, m.list, got, want)
		}
		if got, ok := p.Class(name); ok != there || show(got) != show(mustClass(m, name)) {
			t.Errorf("P7.2: Class(%q) of %+v: %+v", name, m.list, got)
		}
		for _, member := range strings.Fields("u v w x y z code f g h main X") {
			slot, there := m.field(name, member)
			if got, ok := p.Field(name, member); ok != there || got != slot {
				t.Errorf("P7.2: Field(%q, %q) of %+v: %+v", name, member, m.list, got)
			}
			who, f, there := m.method(name, member)
			if owner, got, ok := p.Method(name, member); ok != there || owner != who || show(got) != show(f) {
				t.Errorf("P7.2: Method(%q, %q) of %+v: %q, %+v", name, member, m.list, owner, got)
			}
		}
	}
}

// mustClass: a class of nothing, if it isn't there.
func mustClass(m model, name string) api.Class {
	c, _ := m.class(name)
	return c
}
