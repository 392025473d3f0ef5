package interp

import (
	"fmt"
	"math"
	"strings"
	"testing"

	"loom/api"
	"loom/roots"
)

func TestNewTellsWhatRootsTells(t *testing.T) {
	for _, c := range []struct {
		text string
		want api.Errno
	}{
		{"Main.main() void: add; ret", api.ErrStack},
		{"Main.main() void: load 3; pop; ret", api.ErrUnset},
		{"Main.main() void: pushint 1; outc; ret", api.ErrType},
		{"Main.main() void: enter 0; ret", api.ErrLock},
		// Not Main's alone, and not what is called alone.
		{"Main.main() void: ret\nMain.other() void: exit 0; ret", api.ErrLock},
		{"Main.main() void: ret\nD\nD.f() int: ret", api.ErrType},
	} {
		p := linked(t, classesOf(t, world+c.text))
		_, want := roots.Of(p)
		for _, words := range []int{-1, 0, 1, 100, math.MaxInt} {
			for _, weak := range []bool{false, true} {
				if m, err := New(p, words, weak); m != nil || err != c.want || err != want {
					t.Errorf("P15.1: New of %s: %v, %d, not %d", c.text, m, err, c.want)
				}
			}
		}
	}
}

func TestNewBeginsWithMain(t *testing.T) {
	m := roomy(t, "Main.main() void: pushint 5; store 3; ret")
	is(t, "P15.1: threads", len(m.Threads()), 1)
	is(t, "P15.1: Ready", m.Ready(), []int{1})
	is(t, "P15.1: Over", m.Over(), false)
	is(t, "P15.1: Events", events(m), "")
	is(t, "P15.1: the thread", shown(m, 1), "1 ready; Main.main 0 [@1 - - -] [] []")
	is(t, "P15.1: the object", m.Class(1), "Main")
	words, _ := m.Heap().Words(1)
	is(t, "P15.1: its words", words, 2)
	is(t, "P15.1: objects", m.Heap().All(), []int{1})
	is(t, "P15.1: collections", m.Collections(), 0)
	number, _ := m.Heap().Class(1)
	is(t, "P15.2: its number", number, 7)
}

// Main's main may be one that it has from above; the frame is of the class that has it.
func TestMainFromAbove(t *testing.T) {
	l := classesOf(t, "Main < Up\nUp: u int\nUp.main() void: load 0; getfield Up.u; out; load 0; call Up.name; ret\nUp.name() void: pushint 1; out; ret\nMain.name() void: pushint 2; out; ret")
	m, err := New(linked(t, l), 10, false)
	if err != api.OK {
		t.Fatalf("P15.1: %d", err)
	}
	is(t, "P15.1: the frame", shown(m, 1), "1 ready; Up.main 0 [@1] [] []")
	is(t, "P15.1: the object", m.Class(1), "Main")
	is(t, "P15.3: who is called", events(finish(t, m)), "1 out 0; 1 out 2; 1 end")
}

func TestArenasOfAllSizes(t *testing.T) {
	for words, want := range map[int]int{math.MinInt: 0, -1: 0, 0: 0, 4: 4, 77: 77, 2048: 2048, 2049: 2048, math.MaxInt: 2048} {
		m := begun(t, words, false, "Main.main() void: ret")
		is(t, "P15.1: the arena's words", m.Heap().Size(), want)
	}
}

func TestNoRoomForMain(t *testing.T) {
	for _, weak := range []bool{false, true} {
		for _, words := range []int{-5, 0, 1, 2, 3} {
			m := begun(t, words, weak, "Main.main() void: ret")
			is(t, "P15.1: events", events(m), "1 memory")
			is(t, "P15.1: Over", m.Over(), true)
			is(t, "P15.2: Collections", m.Collections(), 1)
			is(t, "P15.1: threads", len(m.Threads()), 1)
			is(t, "P15.1: the thread", shown(m, 1), "1 ready")
			is(t, "P15.1: Step", m.Step(1), api.ErrThread)
			is(t, "P15.5: Flush, Buffer", fmt.Sprint(m.Flush(1), m.Buffer(1)), "false 0")
			is(t, "P15.1: nothing more", events(m), "1 memory")
			is(t, "P15.2: nothing is there", len(m.Heap().All()), 0)
		}
	}
	// Main has two words and a header.
	is(t, "P15.1: just room enough", events(finish(t, begun(t, 4, false, "Main.main() void: ret"))), "1 end")
}

func TestStepOfWhatMayNot(t *testing.T) {
	const text = "Main.main() void: new A; spawn A.run; join; pushint 4; out; ret"
	m := roomy(t, text)
	strange := []int{0, -1, 3, 12, 13, math.MaxInt, math.MinInt, math.MaxInt32 + 1, 1 << 32}
	refuse := func(ids ...int) {
		t.Helper()
		before := fmt.Sprint(states(m), events(m), shown(m, 1))
		for _, id := range append(ids, strange...) {
			is(t, fmt.Sprintf("P15.1: Step(%d)", id), m.Step(id), api.ErrThread)
		}
		is(t, "P15.1: nothing is changed", fmt.Sprint(states(m), events(m), shown(m, 1)), before)
	}
	refuse(2)
	step(t, m, "1 1 1")
	is(t, "P15.3: it joins", states(m), "JR")
	refuse(1)
	step(t, m, "2")
	is(t, "P15.3: it has joined", states(m), "RE")
	refuse(2)
	step(t, m, "1 1 1")
	is(t, "P15.1: over", m.Over(), true)
	refuse(1, 2)
	is(t, "P15.1: events", events(m), "2 end; 1 out 4; 1 end")
}

// One that is blocked, one that waits.
func TestStepOfOneThatStandsInALine(t *testing.T) {
	m := roomy(t, "Main.main() void: new D; store 1; load 1; spawn D.enters; pop; load 1; spawn D.enters; pop; yield; yield; ret\nD\nD.enters() void: enter 0; load 0; wait; exit 0; ret")
	step(t, m, "1*9 2 3")
	is(t, "P15.3: states", states(m), "RRB")
	is(t, "P15.1: Step of what is blocked", m.Step(3), api.ErrThread)
	step(t, m, "2*2")
	is(t, "P15.3: states", states(m), "RWR")
	is(t, "P15.1: Step of what waits", m.Step(2), api.ErrThread)
	is(t, "P15.1: Ready", m.Ready(), []int{1, 3})
}

func TestOneStepIsOneInstruction(t *testing.T) {
	m := roomy(t, "Main.main() void: nop; yield; pushint 1; goto x; x: pop; ret")
	for pc := range 6 {
		is(t, "P15.1: where it is", m.Threads()[0].Frames[0].Pc, pc)
		step(t, m, "1")
	}
	is(t, "P15.1: behind the last one", states(m), "E")
}

func TestTheLastThreadEnds(t *testing.T) {
	m := roomy(t, "Main.main() void: ret")
	step(t, m, "1")
	is(t, "P15.1: the chapter's example", events(m)+fmt.Sprint(m.Over()), "1 endtrue")
	is(t, "P15.6: it has no frames", shown(m, 1), "1 ended")
	is(t, "P15.6: Ready", len(m.Ready()), 0)
	// Not the first one, and by a throw.
	for last, want := range map[string]string{"ret": "1 end; 2 end", "new A; throw": "1 end; 2 uncaught A 0"} {
		m = roomy(t, "Main.main() void: new D; spawn D.f; pop; ret\nD\nD.f() void: "+last)
		step(t, m, "1*4")
		is(t, "P15.1: one is left", fmt.Sprint(m.Over(), m.Ready()), "false [2]")
		finish(t, m)
		is(t, "P15.1: none is left", events(m), want)
		is(t, "P15.6: states", states(m), "EE")
	}
}

func TestDeadlock(t *testing.T) {
	for main, want := range map[string]string{
		"enter 0; load 0; wait; exit 0; ret": "W",
		"pushint 1; join; ret":               "J",
		// Each waits for the other's end.
		"new D; spawn D.joins; join; ret": "JJ",
		// One has ended with what another one waits for.
		"new D; store 1; load 1; spawn D.enters; pop; enter 1; load 1; spawn D.enters; join; exit 1; ret": "JBB",
	} {
		m := finish(t, roomy(t, "Main.main() void: "+main+"\nD\nD.joins() void: pushint 1; join; ret\nD.enters() void: enter 0; exit 0; ret"))
		is(t, "P15.1: "+main, events(m), "0 deadlock")
		is(t, "P15.1: states", states(m), want)
		is(t, "P15.6: Ready", len(m.Ready()), 0)
		is(t, "P15.1: Step", m.Step(1), api.ErrThread)
		is(t, "P15.1: no second one", events(m), "0 deadlock")
	}
	// Behind what has ended, and behind other events.
	m := finish(t, roomy(t, "Main.main() void: new D; spawn D.waits; out; ret\nD\nD.waits() void: enter 0; load 0; wait; exit 0; ret"))
	is(t, "P15.1: some have ended", events(m), "1 out 2; 1 end; 0 deadlock")
}

// fill: as many events as there may be, of a counting main: four instructions ahead of its loop, which has eight, the second one an Out.
func fill(t testing.TB, m *Machine) {
	t.Helper()
	step(t, m, fmt.Sprintf("1*%d", 4+8*(api.MaxEvents-1)+2))
	if len(m.Events()) != api.MaxEvents || m.Over() {
		t.Fatalf("P15.1: %d events, over: %v", len(m.Events()), m.Over())
	}
}

// lastEvents: how many, and the last ones of them.
func lastEvents(m *Machine, count int) string {
	list := m.Events()
	return fmt.Sprint(len(list), ": ", eventWords(list[len(list)-count:]))
}

// counting: main puts out numbers, falling ones, and goes on with something behind 0.
func counting(last int, then string) string {
	return fmt.Sprintf("Main.main() void: pushint %d; store 1; new D; store 2; x: load 1; out; load 1; pushint 1; sub; dup; store 1; ifone x; %s\nD\n", last, then)
}

func TestAllEventsThatThereMayBe(t *testing.T) {
	m := finish(t, roomy(t, counting(api.MaxEvents-1, "ret")))
	is(t, "P15.1: as many as may be", lastEvents(m, 2), "5000: 1 out 1; 1 end")
	m = finish(t, roomy(t, counting(api.MaxEvents-1, "load 2; wait; ret")))
	is(t, "P15.1: as many as may be", lastEvents(m, 2), "5000: 1 out 1; 1 uncaught Fault 6")
	m = finish(t, roomy(t, counting(api.MaxEvents-1, "enter 0; load 0; wait; exit 0; ret")))
	is(t, "P15.1: as many as may be", lastEvents(m, 2), "5000: 1 out 1; 0 deadlock")
}

func TestTheEventBehindMaxEvents(t *testing.T) {
	// The value is taken all the same, and the thread goes on behind it.
	m := roomy(t, counting(api.MaxEvents+3, "ret"))
	fill(t, m)
	step(t, m, "1*7")
	is(t, "P15.1: events", lastEvents(m, 2), "5000: 1 out 5; 1 out 4")
	is(t, "P15.1: ahead of it", lastFrame(m, 1), "Main.main 5 [@1 i3 @5] [i3] []")
	step(t, m, "1")
	is(t, "P15.1: a limit instead of it", lastEvents(m, 2), "5001: 1 out 4; 1 limit")
	is(t, "P15.1: what else is done", lastFrame(m, 1), "Main.main 6 [@1 i3 @5] [] []")
	is(t, "P15.1: over", fmt.Sprint(m.Over(), m.Step(1), states(m)), fmt.Sprint(true, api.ErrThread, "R"))
	is(t, "P15.1: nothing more", len(m.Events()), 5001)

	for _, c := range []struct{ then, want, state, promise string }{
		{"ret", "1 limit", "E", "its end"},
		{"load 2; throw", "1 limit", "E", "an uncaught throw"},
		{"pushcplx 1i; outc; ret", "1 limit", "R", "a complex number"},
		{"enter 0; load 0; wait; exit 0; ret", "0 limit", "W", "a deadlock"},
		{"x2: new A; store 3; load 3; load 4; putfield A.o; load 3; store 4; goto x2", "1 limit", "R", "out of memory"},
	} {
		text := strings.Replace(counting(api.MaxEvents, c.then), "new D;", "new D; null; store 4;", 1)
		m := finish(t, roomy(t, text))
		is(t, "P15.1: instead of "+c.promise, lastEvents(m, 2), "5001: 1 out 1; "+c.want)
		is(t, "P15.1: the state", states(m), c.state)
	}
}

// What else the instruction does is done: its thread ends, its locks are exited, who waited for that is ready.
func TestTheEndIsDoneBehindMaxEvents(t *testing.T) {
	m := roomy(t, counting(api.MaxEvents, "load 2; spawn D.joins; pop; enter 2; load 2; spawn D.enters; pop; yield; new A; throw")+"D.joins() void: pushint 1; join; ret\nD.enters() void: enter 0; exit 0; ret")
	fill(t, m)
	step(t, m, "1*14 2*2 3 1")
	is(t, "P15.1: ahead of it", fmt.Sprint(states(m), lockWord(m.Lock(5))), "RJB1 1 fat [3] []")
	step(t, m, "1")
	is(t, "P15.1: behind it", fmt.Sprint(states(m), lockWord(m.Lock(5)), m.Over()), "ERR3 1 fat [] []true")
	is(t, "P15.1: behind it", lastFrame(m, 2)+lastFrame(m, 3), "D.joins 2 [@5] [] []D.enters 1 [@5] [] [0]")
	is(t, "P15.1: the limit", lastEvents(m, 2), "5001: 1 out 1; 1 limit")
	// The end of all, and a deadlock, aren't noted any more.
	m = finish(t, roomy(t, counting(api.MaxEvents, "load 2; spawn D.waits; join; ret")+"D.waits() void: enter 0; load 0; wait; exit 0; ret"))
	is(t, "P15.1: a deadlock", lastEvents(m, 1)+states(m), "5001: 0 limitJW")
	m = roomy(t, counting(api.MaxEvents, "load 2; spawn D.waits; pop; yield; ret")+"D.waits() void: enter 0; load 0; wait; exit 0; ret")
	fill(t, m)
	step(t, m, "1*10 2*3 1")
	is(t, "P15.1: a deadlock behind the limit", lastEvents(m, 1)+states(m), "5001: 1 limitEW")
}
