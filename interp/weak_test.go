package interp

import (
	"fmt"
	"math"
	"strings"
	"testing"

	"loom/api"
)

// word: of an object, as an integer.
func word(t testing.TB, m *Machine, at, n int) int64 {
	t.Helper()
	v, err := m.Heap().Get(at, n)
	if err != api.OK {
		t.Fatalf("P15.2: no word %d of %d", n, at)
	}
	return int64(v)
}

// The first thing that a thread writes is the first that is put into an object.
func TestFlush(t *testing.T) {
	m := buffered(t, "Main.main() void: new A; store 1; load 1; pushint 7; putfield A.n; load 1; pushcplx 1-2i; putfield A.c; load 1; pushint 8; putfield A.n; load 1; load 1; putfield A.o; pushint 2; newarr; store 2; load 2; pushint 1; pushint 9; arrput; ret")
	step(t, m, "1*14")
	lie := func() string {
		return fmt.Sprint(word(t, m, 5, 0), word(t, m, 5, 1), math.Float64frombits(uint64(word(t, m, 5, 3))), math.Float64frombits(uint64(word(t, m, 5, 4))), word(t, m, 16, 1))
	}
	step(t, m, "1*7")
	is(t, "P15.5: nothing is in the objects", fmt.Sprint(m.Buffer(1), lie()), "50 0 0 0 0")
	for n, want := range []string{"47 0 0 0 0", "37 0 1 -2 0", "28 0 1 -2 0", "18 5 1 -2 0", "08 5 1 -2 9"} {
		is(t, "P15.5: Flush", m.Flush(1), true)
		is(t, fmt.Sprintf("P15.5: the write %d", n), fmt.Sprint(m.Buffer(1), lie()), want)
	}
	is(t, "P15.5: nothing more", fmt.Sprint(m.Flush(1), m.Buffer(1)), "false 0")
	is(t, "P15.5: the thread stands where it stood", lastFrame(m, 1), "Main.main 21 [@1 @5 []16] [] []")
	for _, id := range []int{0, -1, 2, 13, math.MaxInt, math.MinInt} {
		is(t, fmt.Sprintf("P15.5: no thread %d", id), fmt.Sprint(m.Flush(id), m.Buffer(id)), "false 0")
	}
}

// Without buffers all is at once in the objects.
func TestNotWeak(t *testing.T) {
	m := roomy(t, "Main.main() void: new A; store 1; load 1; pushint 7; putfield A.n; pushint 2; newarr; dup; pushint 1; pushint 9; arrput; pop; ret")
	step(t, m, "1*11")
	is(t, "P15.5", fmt.Sprint(word(t, m, 5, 0), word(t, m, 16, 1), m.Buffer(1), m.Flush(1), m.Buffer(2), m.Flush(0)), "7 9 0 false 0 false")
}

// A thread reads the last of its own writes to that field or element; else what is in the object.
func TestWhatAThreadReadsItself(t *testing.T) {
	for _, flushes := range []int{0, 1, 2, 3, 4, 20} {
		m := buffered(t, "Main.main() void: new A; store 1; new A; store 2; load 1; pushint 7; putfield A.n; load 1; pushint 8; putfield A.n; load 2; pushint 9; putfield A.n; load 1; pushcplx 3i; putfield A.c; load 1; load 2; putfield A.o; "+
			"load 1; getfield A.n; out; load 2; getfield A.n; out; load 1; getfield A.c; outc; load 2; getfield A.c; outc; load 1; getfield A.o; getfield A.n; out; load 2; getfield A.o; null; rsame; out; load 1; null; putfield A.o; load 1; getfield A.o; null; rsame; out; "+
			"pushint 3; newarr; store 3; load 3; pushint 1; pushint 5; arrput; load 3; pushint 1; pushint 6; arrput; load 3; pushint 1; arrget; out; load 3; pushint 0; arrget; out; load 3; arrlen; out; ret")
		step(t, m, "1*19")
		for range flushes {
			m.Flush(1)
		}
		is(t, "P15.5: what it reads", events(finish(t, m)), "1 out 8; 1 out 9; 1 outc (0+3i); 1 outc (0+0i); 1 out 9; 1 out 1; 1 out 1; 1 out 6; 1 out 0; 1 out 3; 1 end")
	}
}

// Another thread reads what is in the object.
func TestWhatAnotherThreadReads(t *testing.T) {
	const text = "L: n int, c cplx, z arr\nL.reads() void: x: load 0; getfield L.n; out; load 0; getfield L.c; outc; load 0; getfield L.z; pushint 0; arrget; out; goto x\n" +
		"Main.main() void: new L; store 1; load 1; pushint 1; newarr; putfield L.z; load 1; spawn L.reads; pop; load 1; pushint 7; putfield L.n; load 1; pushcplx 1i; putfield L.c; load 1; getfield L.z; pushint 0; pushint 9; arrput; load 1; pushint 8; putfield L.n; yield; ret"
	m := buffered(t, text)
	step(t, m, "1*23")
	is(t, "P15.5: the writes", m.Buffer(1), 4)
	for n, want := range []string{"2 out 0; 2 outc (0+0i); 2 out 0", "2 out 7; 2 outc (0+0i); 2 out 0", "2 out 7; 2 outc (0+1i); 2 out 0", "2 out 7; 2 outc (0+1i); 2 out 9", "2 out 8; 2 outc (0+1i); 2 out 9"} {
		step(t, m, "2*12")
		list := m.Events()
		is(t, fmt.Sprintf("P15.5: behind %d", n), eventWords(list[len(list)-3:]), want)
		m.Flush(1)
	}
	// Each has its own buffer; who is flushed last is what stays.
	m = buffered(t, "L: n int\nL.writes() void: load 0; pushint 2; putfield L.n; load 0; getfield L.n; out; yield; ret\nMain.main() void: new L; store 1; load 1; spawn L.writes; pop; load 1; pushint 1; putfield L.n; load 1; getfield L.n; out; load 1; getfield L.n; out; ret")
	step(t, m, "1*8 2*6 1*3")
	is(t, "P15.5: each its own", events(m)+fmt.Sprint(m.Buffer(1), m.Buffer(2)), "2 out 2; 1 out 11 1")
	m.Flush(1)
	is(t, "P15.5: the one", fmt.Sprint(word(t, m, 5, 0), m.Buffer(1), m.Buffer(2)), "1 0 1")
	m.Flush(2)
	step(t, m, "1*3")
	is(t, "P15.5: the other one", fmt.Sprint(word(t, m, 5, 0), m.Buffer(2))+eventWords(m.Events()[2:]), "2 01 out 2")
}

// written: main has an A in local 1 (at 5), null in local 2, and two writes that are on their way.
const wrote = "new A; store 1; null; store 2; load 1; pushint 7; putfield A.n; load 1; pushcplx 3-4i; putfield A.c; "

func TestWhatFlushesAllAheadOfIt(t *testing.T) {
	const others = "E: n int\nE.in() void: ret\nE.throws() void: new E; throw\nE.gives() int: pushint 1; retval\n"
	for _, c := range []struct {
		ahead, one, rest string
		left             int
	}{
		{"enter 1; ", "exit 1", "ret", 0},
		{"enter 1; load 1; ", "wait", "exit 1; ret", 0},
		{"load 1; ", "getfield A.v", "out; ret", 0},
		{"load 1; ", "getfield A.w", "pop; ret", 0},
		{"load 1; ", "getfield A.d", "outc; ret", 0},
		{"load 1; pushint 3; ", "putfield A.v", "ret", 0},
		{"load 1; null; ", "putfield A.w", "ret", 0},
		{"load 1; pushcplx 1i; ", "putfield A.d", "ret", 0},
		{"load 1; ", "spawn A.run", "pop; ret", 0},
		{"", "ret", "", 0},
		{"new A; ", "throw", "", 0},
		{"load 1; ", "notify", "ret", 0},
		{"pushint 1; pushint 0; ", "div", "out; ret", 0},
		// A throw that exits a lock, here or in the frame that called; and all but one.
		{"enter 1; f: new A; ", "throw", "h: pop; ret; catch f h h 0", 0},
		{"enter 1; enter 0; f: new A; ", "throw", "h: pop; exit 1; ret; catch f h h 1", 0},
		// What doesn't.
		{"", "enter 1", "exit 1; ret", 2},
		{"enter 1; enter 0; f: new A; ", "throw", "h: pop; exit 0; exit 1; ret; catch f h h 2", 2},
		{"f: new A; ", "throw", "h: pop; ret; catch f h h 0", 2},
		{"enter 1; load 1; ", "notify", "exit 1; ret", 2},
		{"enter 1; load 1; ", "notifyall", "exit 1; ret", 2},
		{"f: load 1; ", "wait", "g: ret; h: pop; ret; catch f g h 0", 2},
		{"f: null; ", "wait", "g: ret; h: pop; ret; catch f g h 0", 2},
		{"f: load 2; ", "getfield A.v", "pop; g: ret; h: pop; ret; catch f g h 0", 2},
		{"f: load 2; pushint 1; ", "putfield A.v", "g: ret; h: pop; ret; catch f g h 0", 2},
		{"f: load 2; ", "spawn A.run", "pop; g: ret; h: pop; ret; catch f g h 0", 2},
		{"load 1; ", "getfield A.n", "out; ret", 2},
		{"load 1; ", "getfield A.l", "pop; ret", 2},
		{"load 1; pushint 5; ", "putfield A.n", "ret", 3},
		{"load 1; null; ", "putfield A.l", "ret", 3},
		{"pushint 4; newarr; dup; pushint 1; pushint 1; ", "arrput", "pop; ret", 3},
		{"pushint 4; newarr; pushint 1; ", "arrget", "out; ret", 2},
		{"f: pushint 4; newarr; pushint 4; pushint 1; ", "arrput", "g: ret; h: pop; ret; catch f g h 0", 2},
		{"f: load 2; pushint 1; ", "putfield A.n", "g: ret; h: pop; ret; catch f g h 0", 2},
		{"new E; ", "call E.in", "ret", 2},
		{"pushint 1; ", "out", "ret", 2},
		{"pushcplx 1; ", "outc", "ret", 2},
		{"", "yield", "ret", 2},
		{"", "new B", "pop; ret", 2},
		{"pushint 4; ", "newarr", "pop; ret", 2},
		{"load 1; ", "cast A", "pop; ret", 2},
		{"pushint 1; ", "join", "ret", 2},
	} {
		m := buffered(t, others+"Main.main() void: "+wrote+c.ahead+c.one+"; "+c.rest)
		step(t, m, fmt.Sprintf("1*%d", 10+strings.Count(c.ahead, ";")))
		is(t, "P15.5: ahead of "+c.ahead+c.one, fmt.Sprint(m.Buffer(1), " ", word(t, m, 5, 0)), "2 0")
		step(t, m, "1")
		got := []any{m.Buffer(1), word(t, m, 5, 0), math.Float64frombits(uint64(word(t, m, 5, 4)))}
		want := []any{0, 7, -4}
		if c.left > 0 {
			want = []any{c.left, 0, 0}
		}
		is(t, "P15.5: "+c.ahead+c.one, got, want)
	}
}

// Of calls: a Ret that isn't the last one's flushes nothing; a throw does, in the frame that has locks.
func TestFlushesOfCalls(t *testing.T) {
	const main = "Main.main() void: " + wrote + "f: load 1; call E.f; g: ret; h: pop; ret; catch f g h 0"
	text := func(code string) string {
		return "E\n" + strings.Replace(main, "load 1; call E.f", "new E; call E.f", 1) + "\nE.f() void: " + code
	}
	m := buffered(t, text("nop; ret"))
	step(t, m, "1*14")
	is(t, "P15.5: a Ret", fmt.Sprint(len(m.Threads()[0].Frames), m.Buffer(1)), "1 2")
	step(t, m, "1")
	is(t, "P15.5: the last Ret", fmt.Sprint(m.Over(), m.Buffer(1), word(t, m, 5, 0)), "true 0 7")
	m = buffered(t, text("new E; throw"))
	step(t, m, "1*14")
	is(t, "P15.5: a throw through a frame without locks", fmt.Sprint(len(m.Threads()[0].Frames), m.Buffer(1)), "1 2")
	m = buffered(t, text("enter 0; new E; throw"))
	step(t, m, "1*15")
	is(t, "P15.5: a throw through a frame with one", fmt.Sprint(len(m.Threads()[0].Frames), m.Buffer(1), word(t, m, 5, 0)), "1 0 7")
}

// A volatile field is read from, and put into, the object, behind all that was written ahead of it.
func TestVolatileFields(t *testing.T) {
	m := buffered(t, "Main.main() void: "+wrote+"load 1; pushint 3; putfield A.v; load 1; getfield A.v; out; load 1; pushcplx 2i; putfield A.d; load 1; getfield A.d; outc; load 1; pushint 8; putfield A.n; load 1; pushint 4; putfield A.v; ret")
	step(t, m, "1*13")
	is(t, "P15.5: put", fmt.Sprint(m.Buffer(1), word(t, m, 5, 2)), "0 3")
	step(t, m, "1*9")
	is(t, "P15.5: read", events(m), "1 out 3; 1 outc (0+2i)")
	step(t, m, "1*5")
	is(t, "P15.5: ahead of it", fmt.Sprint(m.Buffer(1), word(t, m, 5, 0), word(t, m, 5, 2)), "1 7 3")
	step(t, m, "1")
	is(t, "P15.5: both", fmt.Sprint(m.Buffer(1), word(t, m, 5, 0), word(t, m, 5, 2)), "0 8 4")
}

// Spawn at the limit makes no thread.
func TestASpawnThatMakesNoThread(t *testing.T) {
	m := buffered(t, "Main.main() void: new A; store 1; "+strings.Repeat("load 1; spawn A.run; pop; ", api.MaxThreads-1)+"load 1; pushint 7; putfield A.n; load 1; spawn A.run; pop; ret")
	step(t, m, "1*39 1")
	is(t, "P15.5: nothing is flushed", fmt.Sprint(events(m), m.Over(), m.Buffer(1), word(t, m, 5, 0)), "1 limittrue 1 0")
	is(t, "P15.5: Flush of a machine that is over", fmt.Sprint(m.Flush(1), m.Buffer(1), word(t, m, 5, 0), m.Flush(1)), "true 0 7 false")
}

func TestFlushOfWhatIsOver(t *testing.T) {
	// A deadlock: a Join flushes nothing.
	m := finish(t, buffered(t, "Main.main() void: "+wrote+"pushint 1; join; ret"))
	is(t, "P15.5: a deadlock", events(m)+fmt.Sprint(m.Buffer(1), word(t, m, 5, 0)), "0 deadlock2 0")
	is(t, "P15.5: one", fmt.Sprint(m.Flush(1), m.Buffer(1), word(t, m, 5, 0)), "true 1 7")
	is(t, "P15.5: two", fmt.Sprint(m.Flush(1), m.Buffer(1), m.Flush(1), m.Over()), "true 0 false true")
	// Out of memory.
	m = finish(t, begun(t, 16, true, "Main.main() void: "+wrote+"new A; pop; ret"))
	is(t, "P15.5: out of memory", events(m)+fmt.Sprint(m.Buffer(1), m.Flush(1), word(t, m, 5, 0)), "1 memory2 true 7")
}

// Who gets a lock sees what was written under it, and so do who is begun and who joins.
func TestWhatIsSeenBehindLocks(t *testing.T) {
	const text = "L: n int\nL.reads() void: enter 0; load 0; getfield L.n; out; exit 0; ret\nL.writes() void: load 0; pushint 9; putfield L.n; ret\nL.tells() void: enter 0; load 0; pushint 6; putfield L.n; load 0; notify; exit 0; ret\nL.gone() void: load 0; pushint 4; putfield L.n; null; throw\n"
	for main, want := range map[string]string{
		"enter 1; load 1; spawn L.reads; pop; load 1; pushint 7; putfield L.n; exit 1; ret":                            "1 end; 2 out 7; 2 end",
		"load 1; pushint 7; putfield L.n; load 1; spawn L.reads; pop; ret":                                             "1 end; 2 out 7; 2 end",
		"load 1; spawn L.writes; join; load 1; getfield L.n; out; ret":                                                 "2 end; 1 out 9; 1 end",
		"load 1; spawn L.gone; join; load 1; getfield L.n; out; ret":                                                   "2 uncaught Fault 1; 1 out 4; 1 end",
		"enter 1; load 1; spawn L.tells; pop; load 1; wait; load 1; getfield L.n; out; exit 1; ret":                    "1 out 6; 1 end; 2 end",
		"enter 1; load 1; spawn L.reads; pop; load 1; pushint 7; putfield L.n; new A; throw":                           "1 uncaught A 0; 2 out 7; 2 end",
		"load 1; spawn L.reads; pop; load 1; pushint 7; putfield L.n; pushint 2; join; load 1; getfield L.n; out; ret": "2 out 0; 2 end; 1 out 7; 1 end",
	} {
		is(t, "P15.5: "+main, events(finish(t, buffered(t, text+"Main.main() void: new L; store 1; "+main))), want)
	}
}

// A Fault's code that its thread has written, but not flushed.
func TestTheCodeOfAFaultInABuffer(t *testing.T) {
	m := finish(t, buffered(t, "Main.main() void: new F; dup; pushint 9; putfield Fault.code; throw"))
	is(t, "P15.4", events(m)+fmt.Sprint(m.Buffer(1), word(t, m, 5, 0)), "1 uncaught F 90 9")
	// The machine's own Faults go through no buffer.
	m = buffered(t, "Main.main() void: f: null; throw; h: cast Fault; getfield Fault.code; out; ret; catch f h h 0")
	step(t, m, "1*2")
	is(t, "P15.4: a new Fault", fmt.Sprint(m.Buffer(1), word(t, m, 5, 0)), "0 1")
}
