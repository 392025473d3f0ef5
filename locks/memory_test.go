package locks

import (
	"testing"

	"loom/api"
	"loom/link"
)

// rich: a method whose states have something in all lists: one lock to six, one that isn't reached, a handler.
func rich(t testing.TB) api.Method {
	return write(t, enters(6)+"x: load 1; pushint 7; ifone y; y: pop;"+exits(6)+"ret; add; z: store 7;"+exits(3)+"ret; catch x y z 3 B")
}

func richProgram(t testing.TB) *link.Program {
	t.Helper()
	return linked(t, world(rich(t)))
}

// richStates: what Method answers of a program that nobody has asked anything.
func richStates(t testing.TB) []api.State {
	t.Helper()
	states, err := Method(richProgram(t), "Main", "it")
	if err != api.OK {
		t.Fatalf("P9.1: %d", err)
	}
	return states
}

// overwrite: all of a list, its spare room too.
func overwrite[T any](list []T, by T) {
	list = list[:cap(list)]
	for at := range list {
		list[at] = by
	}
}

// spoil overwrites all that one may come to.
func spoil(states []api.State) {
	for _, s := range states {
		overwrite(s.Locals, api.Type{Kind: 99, Class: "spoilt"})
		overwrite(s.Stack, api.Type{Kind: 98, Class: "spoilt"})
		overwrite(s.Locks, 97)
	}
	overwrite(states, api.State{Locks: []int{96}})
}

func TestMethodAnswersNewMemory(t *testing.T) {
	want := show(richStates(t))
	p := richProgram(t)
	first, _ := Method(p, "Main", "it")
	for range 2 {
		states, err := Method(p, "Main", "it")
		if err != api.OK || show(states) != want {
			t.Errorf("P9.1: %d, %v", err, states)
		}
		spoil(states)
	}
	if show(first) != want {
		t.Errorf("an earlier answer was touched: %v", first)
	}
	spoil(first)
	if states, err := Method(p, "Main", "it"); err != api.OK || show(states) != want || All(p) != api.OK {
		t.Errorf("P9.1: %d, %v", err, states)
	}
	if show(richStates(t)) != want {
		t.Errorf("P9.1: another program was touched")
	}
}

func TestListsOfOneAnswerShareNothing(t *testing.T) {
	want := richStates(t)
	for at := range want {
		states := richStates(t)
		overwrite(states[at].Locks, 99)
		states[at].Locks = want[at].Locks
		if show(states) != show(want) {
			t.Errorf("locks %d share memory: %v", at, states)
		}
		overwrite(states[at].Locals, api.Type{Kind: 99})
		overwrite(states[at].Stack, api.Type{Kind: 99})
		states[at].Locals, states[at].Stack = want[at].Locals, want[at].Stack
		if show(states) != show(want) {
			t.Errorf("locals or stack %d share memory: %v", at, states)
		}
		// What is put behind one list is put into no other.
		states = richStates(t)
		for other := range states {
			states[other].Locks = append(states[other].Locks, at)
		}
		for other, s := range states {
			if show(s.Locks) != show(append(append([]int(nil), want[other].Locks...), at)) {
				t.Errorf("locks %d share spare room: %v", other, s.Locks)
			}
		}
	}
}

// programText: all that a program tells of its classes.
func programText(p *link.Program) string {
	text := ""
	for number := 0; p.Name(number) != ""; number++ {
		c, _ := p.Class(p.Name(number))
		l, _ := p.Layout(p.Name(number))
		text += show(c, l)
	}
	return text
}

func TestChangesNothingOfTheProgram(t *testing.T) {
	for _, m := range []api.Method{rich(t), write(t, "enter 1; ret"), write(t, enters(7)+"ret"), write(t, "enter 1; x: pop; y: ret; catch x y y 1")} {
		p := linked(t, world(m))
		before := programText(p)
		for number := 0; p.Name(number) != ""; number++ {
			for _, name := range []string{"it", "main", "run", "x"} {
				states, _ := Method(p, p.Name(number), name)
				spoil(states)
			}
		}
		All(p)
		if programText(p) != before {
			t.Errorf("the program was changed: %s", programText(p))
		}
	}
}

func TestAnswersTheSameWhateverWasAskedBetween(t *testing.T) {
	want := show(richStates(t))
	p := richProgram(t)
	kept := linked(t, world(write(t, enters(6)+"ret")))
	short := linked(t, world(write(t, "enter 2; pop; ret")))
	for range 3 {
		if states, err := Method(p, "Main", "it"); err != api.OK || show(states) != want {
			t.Errorf("P9.1: %d, %v", err, states)
		}
		for _, c := range []struct {
			p    *link.Program
			want api.Errno
		}{{kept, api.ErrLock}, {short, api.ErrStack}, {p, api.OK}} {
			if err := All(c.p); err != c.want {
				t.Errorf("P9.2: %d, not %d", err, c.want)
			}
			if states, err := Method(c.p, "Main", "it"); err != c.want || err != api.OK && states != nil {
				t.Errorf("P9.1: %d, not %d, %v", err, c.want, states)
			}
			if states, err := Method(c.p, "X", "it"); err != api.ErrMember || states != nil {
				t.Errorf("P9.1: %d, %v", err, states)
			}
			if states, err := Method(c.p, "A", "run"); err != api.OK || texts(states) != "- 0 -" {
				t.Errorf("P9.1: %d, %s", err, texts(states))
			}
		}
	}
}

func TestAnswersTheSameToManyAtOnce(t *testing.T) {
	p := richProgram(t)
	want := show(richStates(t))
	done := make(chan string)
	for range 8 {
		go func() {
			states, _ := Method(p, "Main", "it")
			text := show(states)
			spoil(states)
			if All(p) != api.OK {
				text = "All refuses"
			}
			done <- text
		}()
	}
	for range 8 {
		if got := <-done; got != want {
			t.Errorf("P9.1: %s", got)
		}
	}
}
