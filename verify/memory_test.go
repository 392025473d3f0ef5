package verify

import (
	"testing"

	"loom/api"
	"loom/link"
)

// rich: a method whose states have something in all lists, one that isn't reached among them.
func rich() body {
	return body{params: "int B", locals: 2, stack: 3, code: `x: new D; store 3; load 1; load 2; pushcplx 7i; pop; pop; ifone x; null; store 4; goto out; add;
		out: ret; y: throw; catch x out y E; catch x y y *`}
}

func richProgram(t testing.TB) *link.Program {
	t.Helper()
	m, pool := rich().method(t)
	return linked(t, world(pool, m))
}

// whole: a list with its spare room.
func whole[T any](list []T) []T { return list[:cap(list)] }

// overwrite: all of a list, its spare room too.
func overwrite[T any](list []T, by T) {
	for at := range whole(list) {
		whole(list)[at] = by
	}
}

// spoil overwrites all that one may come to.
func spoil(states []api.State) {
	for _, s := range states {
		spoilState(s)
	}
	overwrite(states, api.State{Locks: []int{99}})
}

func spoilState(s api.State) {
	overwrite(s.Locals, api.Type{Kind: 99, Class: "spoilt"})
	overwrite(s.Stack, api.Type{Kind: 98, Class: "spoilt"})
	overwrite(s.Locks, 97)
}

// richStates: what Method answers of a program that nobody has asked anything.
func richStates(t testing.TB) []api.State {
	t.Helper()
	states, err := Method(richProgram(t), "Main", "it")
	if err != api.OK {
		t.Fatalf("P8.1: %d", err)
	}
	return states
}

func TestMethodAnswersNewMemory(t *testing.T) {
	want := show(richStates(t))
	p := richProgram(t)
	first, _ := Method(p, "Main", "it")
	for range 2 {
		states, err := Method(p, "Main", "it")
		if err != api.OK || show(states) != want {
			t.Errorf("P8.1: %d, %v", err, states)
		}
		spoil(states)
	}
	if show(first) != want {
		t.Errorf("an earlier answer was touched: %v", first)
	}
	spoil(first)
	if states, err := Method(p, "Main", "it"); err != api.OK || show(states) != want || All(p) != api.OK {
		t.Errorf("P8.1: %d, %v", err, states)
	}
	if show(richStates(t)) != want {
		t.Errorf("P8.1: another program was touched")
	}
}

func TestListsOfOneAnswerShareNothing(t *testing.T) {
	want := richStates(t)
	for at := range want {
		states := richStates(t)
		overwrite(states[at].Locals, api.Type{Kind: 99})
		states[at].Locals = want[at].Locals
		if show(states) != show(want) {
			t.Errorf("locals %d share memory: %v", at, states)
		}
		overwrite(states[at].Stack, api.Type{Kind: 99})
		states[at].Stack = want[at].Stack
		if show(states) != show(want) {
			t.Errorf("stack %d shares memory: %v", at, states)
		}
	}
}

// programText: all that a program tells of its classes.
func programText(p *link.Program) string {
	text := ""
	for number := 0; p.Name(number) != ""; number++ {
		c, _ := p.Class(p.Name(number))
		l, _ := p.Layout(p.Name(number))
		text += show(c, l)
	}
	return text
}

func TestChangesNothingOfTheProgram(t *testing.T) {
	p := richProgram(t)
	before := programText(p)
	for _, class := range below("Object") {
		for _, name := range []string{"it", "main", "run", "mix", "own", "x"} {
			states, _ := Method(p, class, name)
			spoil(states)
		}
	}
	All(p)
	if programText(p) != before {
		t.Errorf("the program was changed: %s", programText(p))
	}
	bad := body{stack: 1, code: "null; x: null; y: ret; z: out; ret; catch x y z D"}
	m, pool := bad.method(t)
	q := linked(t, world(pool, m))
	before = programText(q)
	Method(q, "Main", "it")
	All(q)
	if programText(q) != before {
		t.Errorf("a refused program was changed: %s", programText(q))
	}
}

func TestEntryNeitherChangesNorKeepsWhatItIsHanded(t *testing.T) {
	made := func() api.Method {
		m := api.Method{Name: "m", Locals: 9}
		m.Params = append(make([]api.Type, 0, 12), typesOf("int B cplx")...)
		m.Code = append(make([]api.Ins, 0, 4), api.Ins{Op: api.Ret})
		m.Handlers = append(make([]api.Handler, 0, 4), api.Handler{To: 1})
		return m
	}
	m := made()
	s, later := Entry("A", m), Entry("A", m)
	want := show(s)
	if show(whole(m.Params), whole(m.Code), whole(m.Handlers)) != show(whole(made().Params), whole(made().Code), whole(made().Handlers)) {
		t.Errorf("Entry changed what it was handed: %+v", m)
	}
	overwrite(m.Params, api.Type{Kind: 99})
	if show(s) != want {
		t.Errorf("Entry kept what it was handed: %+v", s)
	}
	m = made()
	spoilState(s)
	if show(m) != show(made()) || show(later) != want || show(Entry("A", m)) != want {
		t.Errorf("Entry's answers share memory: %+v, %+v", m, later)
	}
	// Just as many locals as there are parameters: the list of these isn't the answer either.
	m.Locals = 4
	spoilState(Entry("A", m))
	if show(m.Params) != show(made().Params) {
		t.Errorf("Entry's answer is what it was handed: %+v", m)
	}
}

func TestAnswersTheSameWhateverWasAskedBetween(t *testing.T) {
	want := show(richStates(t))
	p := richProgram(t)
	bad, pool := body{stack: 1, code: "pop; ret"}.method(t)
	q := linked(t, world(pool, bad))
	for range 3 {
		if states, err := Method(p, "Main", "it"); err != api.OK || show(states) != want {
			t.Errorf("P8.1: %d, %v", err, states)
		}
		Method(q, "Main", "it")
		Method(p, "X", "it")
		Method(p, "A", "mix")
		Entry("Q", api.Method{Locals: 3})
		if err := All(q); err != api.ErrStack {
			t.Errorf("P8.3: %d", err)
		}
		if err := All(p); err != api.OK {
			t.Errorf("P8.3: %d", err)
		}
	}
}

func TestAnswersTheSameToManyAtOnce(t *testing.T) {
	p := richProgram(t)
	want := show(richStates(t))
	done := make(chan string)
	for range 8 {
		go func() {
			states, _ := Method(p, "Main", "it")
			text := show(states)
			spoil(states)
			if All(p) != api.OK {
				text = "All refuses"
			}
			done <- text
		}()
	}
	for range 8 {
		if got := <-done; got != want {
			t.Errorf("P8.1: %s", got)
		}
	}
}
