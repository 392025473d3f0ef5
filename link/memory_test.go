package link

import (
	"slices"
	"testing"

	"loom/api"
	"loom/class"
)

// richFamily: classes with something in each of their lists, two methods with each list among them.
func richFamily() []api.Class {
	m, n := richMethod(), richMethod()
	n.Name = "other"
	first := having("Main", "A", ofClass("Fault"), api.Const{Kind: api.CInt, Int: 7}, field("x", plain(api.TInt)), field("y", ref("A")), void("main"), m, n)
	second := having("A", "", ofClass("Main"), field("a", plain(api.TCplx)), m, n)
	return []api.Class{first, second}
}

// roomy: a list with spare room behind it.
func roomy[T any](list []T) []T { return append(make([]T, 0, len(list)+9), list...) }

func roomyFamily() []api.Class {
	l := roomy(richFamily())
	for at := range l {
		c := &l[at]
		c.Pool, c.Fields, c.Methods = roomy(c.Pool), roomy(c.Fields), roomy(c.Methods)
		for of := range c.Methods {
			m := &c.Methods[of]
			m.Params, m.Code, m.Handlers = roomy(m.Params), roomy(m.Code), roomy(m.Handlers)
		}
	}
	return l
}

// whole: a list with its spare room.
func whole[T any](list []T) []T { return list[:cap(list)] }

// overwrite: all of a list, its spare room too.
func overwrite[T any](list []T, by T) {
	for at := range whole(list) {
		whole(list)[at] = by
	}
}

// spoilMethod, spoilClass, spoilLayout overwrite all that one may come to.
func spoilMethod(m api.Method) {
	overwrite(m.Params, plain(99))
	overwrite(m.Code, api.Ins{Op: 99})
	overwrite(m.Handlers, api.Handler{To: 99})
}

func spoilClass(c api.Class) {
	for _, m := range c.Methods {
		spoilMethod(m)
	}
	overwrite(c.Pool, api.Const{Kind: 99})
	overwrite(c.Fields, api.Field{Name: "spoilt"})
	overwrite(c.Methods, api.Method{Name: "spoilt"})
}

func spoilLayout(l api.Layout) {
	overwrite(l.Ancestors, "spoilt")
	overwrite(l.Fields, api.Slot{Class: "spoilt", At: 99})
	overwrite(l.Table, api.Entry{Name: "spoilt", Class: "spoilt"})
}

// expectUntouched: p is as Link made it of richFamily.
func expectUntouched(t *testing.T, p *Program) {
	t.Helper()
	expectRich(t, answersOf(p))
}

// answers: one of each kind.
type answers struct {
	main, above, fault api.Class
	layout, small      api.Layout
	own, inherited     api.Method
	names              []string
}

func answersOf(p *Program) answers {
	var a answers
	a.main, _ = p.Class("Main")
	a.above, _ = p.Class("A")
	a.fault, _ = p.Class("Fault")
	a.layout, _ = p.Layout("Main")
	a.small, _ = p.Layout("Fault")
	_, a.own, _ = p.Method("Main", "rich")
	_, a.inherited, _ = p.Method("A", "other")
	a.names = p.Hier().Names()
	return a
}

// spoil: all lists of all answers.
func (a answers) spoil() {
	for _, c := range []api.Class{a.main, a.above, a.fault} {
		spoilClass(c)
	}
	spoilLayout(a.layout)
	spoilLayout(a.small)
	spoilMethod(a.own)
	spoilMethod(a.inherited)
	overwrite(a.names, "spoilt")
}

func expectRich(t *testing.T, a answers) {
	t.Helper()
	want := model{richFamily()}
	if !class.Same(a.main, want.list[0]) || !class.Same(a.above, want.list[1]) || !class.Same(a.fault, mustClass(want, "Fault")) {
		t.Errorf("P7.2: classes: %+v, %+v, %+v", a.main, a.above, a.fault)
	}
	layout, _ := want.layout("Main")
	small, _ := want.layout("Fault")
	if show(a.layout) != show(layout) || show(a.small) != show(small) {
		t.Errorf("P7.2: layouts: %+v, %+v", a.layout, a.small)
	}
	if show(a.own) != show(want.list[0].Methods[1]) || show(a.inherited) != show(want.list[1].Methods[1]) {
		t.Errorf("P7.2: methods: %+v, %+v", a.own, a.inherited)
	}
	if !slices.Equal(a.names, []string{"Object", "Fault", "Main", "A"}) {
		t.Errorf("P7.2: Hier: %q", a.names)
	}
}

// wholeOf: classes with the spare room of their lists in them.
func wholeOf(l []api.Class) []api.Class {
	l = slices.Clone(whole(l))
	for at := range l {
		c := &l[at]
		c.Pool, c.Fields, c.Methods = whole(c.Pool), whole(c.Fields), slices.Clone(whole(c.Methods))
		for of := range c.Methods {
			m := &c.Methods[of]
			m.Params, m.Code, m.Handlers = whole(m.Params), whole(m.Code), whole(m.Handlers)
		}
	}
	return l
}

func TestChangesNothingThatIsHandedIn(t *testing.T) {
	before := show(wholeOf(roomyFamily()))
	l := roomyFamily()
	p := made(t, l...)
	answersOf(p).spoil()
	if after := show(wholeOf(l)); after != before {
		t.Errorf("Link, or who changes its answers, changed its list: %s", after)
	}
	// Refused ones too, by each stage.
	for at, spoil := range []func(l []api.Class){
		func(l []api.Class) { l[1].Name = "1" }, func(l []api.Class) { l[1].Super = "Main" }, func(l []api.Class) { l[0].Fields[0].Name = "a" }, func(l []api.Class) { l[1].Pool[0].Class = "X" }, func(l []api.Class) { l[0].Methods[0].Name = "m" },
	} {
		l := roomyFamily()
		spoil(l)
		before := show(wholeOf(l))
		if _, err := Link(l); err == api.OK {
			t.Errorf("P7.1: refused list %d is taken", at)
		}
		if after := show(wholeOf(l)); after != before {
			t.Errorf("Link changed its refused list: %s", after)
		}
	}
}

func TestKeepsNothingThatIsHandedIn(t *testing.T) {
	l := roomyFamily()
	p := made(t, l...)
	for _, c := range l {
		spoilClass(c)
	}
	overwrite(l, api.Class{Name: "spoilt"})
	expectUntouched(t, p)
}

// Lists handed in may share memory with one another: what is told of them doesn't.
func TestKeepsNothingOfListsThatShareMemory(t *testing.T) {
	l := richFamily()
	l[0].Methods = append(l[0].Methods[1:], void("main"))
	l[1].Methods = l[0].Methods
	l[1].Pool = l[0].Pool[:1]
	p := made(t, l...)
	first, _ := p.Class("Main")
	second, _ := p.Class("A")
	spoilClass(first)
	if !class.Same(second, l[1]) {
		t.Errorf("P7.2: Class of A: %+v", second)
	}
	if third, _ := p.Class("Main"); !class.Same(third, l[0]) {
		t.Errorf("P7.2: Class of Main: %+v", third)
	}
}

func TestAnswersAreNewMemory(t *testing.T) {
	p := made(t, richFamily()...)
	earlier := answersOf(p)
	for range 2 {
		answersOf(p).spoil()
		expectUntouched(t, p)
		expectRich(t, earlier)
	}
	earlier.spoil()
	expectUntouched(t, p)
	// Of a program that was told nothing of one that was.
	expectUntouched(t, made(t, richFamily()...))
}

func TestListsOfOneAnswerShareNothing(t *testing.T) {
	p := made(t, richFamily()...)
	for at := range richFamily()[0].Methods {
		c, _ := p.Class("Main")
		spoilMethod(c.Methods[at])
		c.Methods[at] = richFamily()[0].Methods[at]
		if !class.Same(c, richFamily()[0]) {
			t.Errorf("P7.2: method %d of a class shares memory: %+v", at, c)
		}
	}
}

func TestKeepsNothingOfOthers(t *testing.T) {
	p := made(t, richFamily()...)
	made(t, family()...)
	other := richFamily()
	other[1].Fields[0].Name = "b"
	other[0].Methods[1].Code[0].Op = api.Yield
	made(t, other...)
	Link([]api.Class{having("Main", "Main")})
	expectUntouched(t, p)
}

func TestAnswersTheSameToManyAtOnce(t *testing.T) {
	p := made(t, richFamily()...)
	done := make(chan answers)
	for range 8 {
		go func() {
			a := answersOf(p)
			answersOf(p).spoil()
			done <- a
		}()
	}
	for range 8 {
		expectRich(t, <-done)
	}
}
