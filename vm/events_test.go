package vm

import (
	"fmt"
	"math"
	"slices"
	"testing"

	"loom/api"
)

func TestEventsAreTheMachines(t *testing.T) {
	v := roomy(t, busy)
	for n := 0; v.Pick(n * 5); n++ {
		is(t, "P16.1: Events", events(v.Events()), events(v.Machine().Events()))
	}
	is(t, "P16.1: Events", events(v.Events()), events(v.Machine().Events()))
	is(t, "something has come", len(v.Events()) > 10, true)
}

// All that an event has: integers, complex numbers, classes and codes.
func TestEventsAsTheyAre(t *testing.T) {
	v := finish(t, roomy(t, "F < Fault\nG < F\nG.f() void: new F; throw\nMain\nMain.main() void: pushint -5; out; pushcplx 2-3i; outc; new G; spawn G.f; join; new G; dup; pushint 77; putfield Fault.code; throw"))
	want := []api.Event{
		{Thread: 1, Kind: api.EOut, Int: -5},
		{Thread: 1, Kind: api.EOutC, Cplx: complex(2, -3)},
		{Thread: 2, Kind: api.EUncaught, Class: "F"},
		{Thread: 1, Kind: api.EUncaught, Int: 77, Class: "G"},
	}
	is(t, "P16.1: Events", slices.Equal(v.Events(), want), true)
	is(t, "P16.1: Seen(1)", slices.Equal(v.Seen(1), []api.Event{want[0], want[1], want[3]}), true)
	is(t, "P16.1: Seen(2)", slices.Equal(v.Seen(2), want[2:3]), true)
}

func TestSeen(t *testing.T) {
	v := threeReady(t)
	for _, id := range []int{1, 2, 3} {
		is(t, "P16.1: nothing has come", len(v.Seen(id)), 0)
	}
	pick(t, v, 1, 0, 2, 2, 1, 0, 0, 2, 2, 0, 1, 1)
	is(t, "P16.1: Events", events(v.Events()), "3 out 7; 2 out 7; 1 out 1; 3 out 8; 1 out 2; 2 out 8")
	is(t, "P16.1: Seen(1)", events(v.Seen(1)), "1 out 1; 1 out 2")
	is(t, "P16.1: Seen(2)", events(v.Seen(2)), "2 out 7; 2 out 8")
	is(t, "P16.1: Seen(3)", events(v.Seen(3)), "3 out 7; 3 out 8")
	strange := []int{0, 4, 12, 13, -1, -2, math.MinInt, math.MaxInt, 1 << 32, 1<<32 + 1, 257}
	for _, id := range strange {
		is(t, fmt.Sprintf("P16.1: Seen(%d)", id), len(v.Seen(id)), 0)
	}
	finish(t, v)
	is(t, "P16.1: Seen(2)", events(v.Seen(2)), "2 out 7; 2 out 8; 2 end")
	for _, id := range strange {
		is(t, fmt.Sprintf("P16.1: Seen(%d)", id), len(v.Seen(id)), 0)
	}
}

// Each event is seen once, in its order, by the thread that it names.
func TestSeenIsAllOfEvents(t *testing.T) {
	for n := range 40 {
		v := roomy(t, busy)
		for k := 0; v.Pick(k * k * (n + 1)); k++ {
			left := map[int][]api.Event{}
			for id := range api.MaxThreads + 1 {
				left[id] = v.Seen(id)
			}
			for _, e := range v.Events() {
				if seen := left[e.Thread]; len(seen) == 0 || seen[0] != e {
					t.Fatalf("P16.1: %+v isn't seen of %d: %+v", e, e.Thread, seen)
				}
				left[e.Thread] = left[e.Thread][1:]
			}
			for id, rest := range left {
				is(t, fmt.Sprintf("P16.1: more is seen of %d", id), len(rest), 0)
			}
		}
	}
}

func TestEventsOfADeadlock(t *testing.T) {
	v := finish(t, roomy(t, "D\nD.waits() void: enter 0; load 0; wait; exit 0; ret\nMain\nMain.main() void: pushint 3; out; new D; spawn D.waits; join; ret"))
	is(t, "P16.1: Events", events(v.Events()), "1 out 3; 0 deadlock")
	is(t, "P16.1: it is no thread's", events(v.Seen(0)), "0 deadlock")
	is(t, "P16.1: Seen(1)", events(v.Seen(1)), "1 out 3")
	is(t, "P16.1: Seen(2)", events(v.Seen(2)), "")
}

func TestEventsOfALimit(t *testing.T) {
	v := finish(t, roomy(t, "A\nA.f() void: ret\nMain\nMain.main() void: pushint 4; out; a: new A; spawn A.f; out; goto a"))
	list := v.Events()
	is(t, "P16.1: too many threads", events(list[len(list)-2:]), "1 out 12; 1 limit")
	is(t, "P16.1: how many", len(list), api.MaxThreads+1)
	is(t, "P16.1: Seen(1)", events(v.Seen(1)), events(list))
	// Threads take turns, and the second one is one too many.
	v = roomy(t, "A\nA.f() void: a: pushint 2; out; goto a\nMain\nMain.main() void: new A; spawn A.f; pop; a: pushint 1; out; goto a")
	pick(t, v, 0, 0, 0)
	for n := 0; v.Pick(n); n++ {
	}
	list = v.Events()
	is(t, "P16.1: too many events", events(list[len(list)-3:]), "1 out 1; 2 out 2; 1 limit")
	is(t, "P16.1: how many", fmt.Sprint(len(list), len(v.Seen(1)), len(v.Seen(2))), fmt.Sprint(api.MaxEvents+1, api.MaxEvents/2+1, api.MaxEvents/2))
}

func TestEventsOfOutOfMemory(t *testing.T) {
	v := finish(t, begun(t, 100, "D\nD.f() void: pushint 50; newarr; store 1; pushint 60; newarr; store 1; ret\nMain\nMain.main() void: new D; spawn D.f; out; pushint 2; join; pushint 5; out; ret"))
	is(t, "P16.1: Events", events(v.Events()), "1 out 2; 2 memory")
	is(t, "P16.1: Seen(2)", events(v.Seen(2)), "2 memory")
	is(t, "P16.1: Seen(1)", events(v.Seen(1)), "1 out 2")
}

// Machine tells the machine itself: what is done with it is done here, and the other way round.
func TestMachineIsTheMachine(t *testing.T) {
	v := threeReady(t)
	m := v.Machine()
	is(t, "P16.1: ever the same one", v.Machine() == m, true)
	is(t, "P16.1: Step", m.Step(3), api.OK)
	is(t, "P16.1: Step", m.Step(3), api.OK)
	is(t, "P16.1: Events", events(v.Events()), "3 out 7")
	pick(t, v, 2, 2, 2)
	is(t, "P16.1: its events", events(m.Events()), "3 out 7; 3 out 8; 3 end")
	is(t, "P16.1: who is ready", m.Ready(), []int{1, 2})
	is(t, "P16.1: the picks are of these", stepped(t, v, -1), 2)
	for !m.Over() {
		m.Step(m.Ready()[0])
	}
	is(t, "P16.1: over", fmt.Sprint(v.Pick(0), v.Machine() == m), "false true")
}
