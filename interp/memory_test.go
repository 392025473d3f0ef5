package interp

import (
	"fmt"
	"slices"
	"testing"

	"loom/api"
	"loom/link"
)

// overwrite: all of a list, its spare room too, and what is put behind it.
func overwrite[T any](list []T, by T) {
	_ = append(list, by, by, by)
	list = list[:cap(list)]
	for at := range list {
		list[at] = by
	}
}

// spoil overwrites all that one comes to by threads.
func spoil(list []api.Thread) {
	for _, x := range list {
		for _, f := range x.Frames {
			overwrite(f.Locals, api.Value{Kind: 99, Int: 98})
			overwrite(f.Stack, api.Value{Kind: 97, Ref: 96})
			overwrite(f.Locks, 95)
		}
		overwrite(x.Frames, api.Frame{Class: "spoilt"})
	}
	overwrite(list, api.Thread{Id: 94})
}

// all that is told of a machine.
func all(m *Machine) string {
	text := fmt.Sprint(m.Ready(), m.Over(), events(m), m.Collections(), m.Heap().All())
	for _, x := range m.Threads() {
		text += threadWords(x) + fmt.Sprint(m.Buffer(x.Id)) + "\n"
	}
	for at := range 60 {
		text += m.Class(at) + lockWord(m.Lock(at))
	}
	return text
}

// crowded: two frames, each with locals, stack and locks; a lock with threads in both its lists; events; some behind others.
const crowded = "L: n int\nL.waits() void: enter 0; load 0; wait; exit 0; ret\nL.enters() void: enter 0; exit 0; ret\nMain.in(L) void: enter 1; enter 0; pushint 6; out; pushint 4; pushint 5; yield; pop; pop; exit 0; exit 1; ret\n" +
	"Main.main() void: new L; store 1; load 1; spawn L.waits; pop; load 1; spawn L.waits; pop; load 1; spawn L.enters; pop; load 1; spawn L.enters; pop; pushint 7; enter 1; load 0; dup; load 1; call Main.in; pop; pushint 8; out; exit 1; out; pushint 5; out; ret"

func crowdedAt(t testing.TB) *Machine {
	t.Helper()
	m := buffered(t, crowded)
	step(t, m, "1*14 2*3 3*3 1*6 4 5 1*6")
	return m
}

func TestAnswersAreNewMemory(t *testing.T) {
	m := crowdedAt(t)
	want := all(m)
	is(t, "the machine is what it is meant to be", states(m)+lockWord(m.Lock(5))+lastFrame(m, 1), "RWWBB1 2 fat [4 5] [2 3]Main.in 6 [@1 @5] [i4 i5] [1 0]")
	threads, list, ready, lock := m.Threads(), m.Events(), m.Ready(), m.Lock(5)
	for range 3 {
		spoil(m.Threads())
		overwrite(m.Events(), api.Event{Kind: 99})
		overwrite(m.Ready(), 98)
		l := m.Lock(5)
		overwrite(l.Entry, 97)
		overwrite(l.Wait, 96)
		is(t, "P15.6: answers are nobody else's", all(m), want)
	}
	told := func() string {
		text := eventWords(list) + fmt.Sprint(ready) + lockWord(lock)
		for _, x := range threads {
			text += threadWords(x)
		}
		return text
	}
	was := told()
	for n := 0; !m.Over() && n < 200; n++ {
		m.Step(m.Ready()[0])
	}
	is(t, "P15.6: answers stay, whatever becomes of the machine", told(), was)
	is(t, "the machine went on", m.Over() && all(m) != want, true)
}

// What is answered may be overwritten at each step: the machine does what one does of which nothing was asked.
func TestOverwrittenAtEachStep(t *testing.T) {
	m, other := buffered(t, crowded), buffered(t, crowded)
	for n := 0; !m.Over(); n++ {
		ready := m.Ready()
		id := ready[n%len(ready)]
		spoil(m.Threads())
		overwrite(m.Events(), api.Event{Kind: 99})
		overwrite(ready, 98)
		for at := range 10 {
			l := m.Lock(at)
			overwrite(l.Entry, 97)
			overwrite(l.Wait, 96)
		}
		if one, two := m.Step(id), other.Step(id); one != two || all(m) != all(other) {
			t.Fatalf("P15.6: step %d of %d: %d, %d:\n%s, not\n%s", n, id, one, two, all(m), all(other))
		}
	}
}

func TestListsOfOneAnswerShareNothing(t *testing.T) {
	m := crowdedAt(t)
	want := m.Threads()
	for n, x := range want {
		for at := range x.Frames {
			for which := range 3 {
				got := m.Threads()
				f, was := &got[n].Frames[at], want[n].Frames[at]
				switch which {
				case 0:
					overwrite(f.Locals, api.Value{Kind: 99})
					f.Locals = was.Locals
				case 1:
					overwrite(f.Stack, api.Value{Kind: 99})
					f.Stack = was.Stack
				default:
					overwrite(f.Locks, 99)
					f.Locks = was.Locks
				}
				is(t, "P15.6: a list of an answer is in no other one", fmt.Sprint(got), fmt.Sprint(want))
			}
		}
		got := m.Threads()
		overwrite(got[n].Frames, api.Frame{Pc: 99})
		got[n].Frames = x.Frames
		is(t, "P15.6: frames of one thread are in no other one's", fmt.Sprint(got), fmt.Sprint(want))
	}
	l := m.Lock(5)
	overwrite(l.Entry, 99)
	is(t, "P15.6: lists of a lock", fmt.Sprint(l.Wait), "[2 3]")
}

// programText: all that a program tells of its classes.
func programText(p *link.Program) string {
	text := ""
	for number := 0; p.Name(number) != ""; number++ {
		c, _ := p.Class(p.Name(number))
		l, _ := p.Layout(p.Name(number))
		text += fmt.Sprintf("%+v %+v", c, l)
	}
	return text
}

// Machines of one program, and the program, are nothing to one another.
func TestMachinesOfOneProgram(t *testing.T) {
	p := linked(t, classesOf(t, world+crowded))
	before := programText(p)
	one, _ := New(p, 100, false)
	other, _ := New(p, 100, true)
	fresh := all(one)
	for !other.Over() {
		other.Step(other.Ready()[len(other.Ready())-1])
		other.Flush(1)
		is(t, "another machine's steps", all(one), fresh)
	}
	finish(t, one)
	third, _ := New(p, 100, false)
	is(t, "a machine that is made later", all(third), fresh)
	is(t, "the same steps", events(finish(t, third)), events(one))
	is(t, "P15.1: the program is not changed", programText(p), before)
}

// At the same time, too: nothing is written that two machines have.
func TestMachinesAtTheSameTime(t *testing.T) {
	l := classesOf(t, drawn(3))
	p := linked(t, l)
	var want []string
	for range 8 {
		m, _ := New(p, 300, true)
		want = append(want, roundRobin(m))
	}
	got := make([]string, len(want))
	done := make(chan int)
	for n := range want {
		go func() {
			m, _ := New(p, 300, true)
			got[n] = roundRobin(m)
			done <- n
		}()
	}
	for range want {
		<-done
	}
	is(t, "the same, whoever else runs", slices.Equal(got, want), true)
}

func roundRobin(m *Machine) string {
	text := ""
	for n := 0; n < 500 && !m.Over(); n++ {
		ready := m.Ready()
		m.Step(ready[n%len(ready)])
		text += fmt.Sprint(states(m))
	}
	return text + all(m)
}
