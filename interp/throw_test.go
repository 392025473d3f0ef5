package interp

import (
	"fmt"
	"strings"
	"testing"

	"loom/api"
)

// thrown: main throws an object of a class, in a range with handlers; each handler puts out its number.
func thrownTo(t *testing.T, class string, handlers ...string) string {
	t.Helper()
	text := "f: new " + class + "; throw; g: "
	catches := ""
	for n, h := range handlers {
		text += fmt.Sprintf("h%d: pop; pushint %d; out; ret; ", n, n)
		catches += fmt.Sprintf("; catch f g h%d 0 %s", n, h)
	}
	return outcome(t, "Main.main() void: "+text+catches)
}

func TestTheFirstHandlerThatFits(t *testing.T) {
	for _, c := range []struct{ class, handlers, want string }{
		{"A", "A", "1 out 0; 1 end"},
		{"A", "Object", "1 out 0; 1 end"},
		{"A", "any", "1 out 0; 1 end"},
		{"B", "A", "1 out 0; 1 end"},
		{"A", "B", "1 uncaught A 0"},
		{"C", "B", "1 uncaught C 0"},
		{"A", "Fault", "1 uncaught A 0"},
		{"Fault", "A", "1 uncaught Fault 0"},
		{"G", "F", "1 out 0; 1 end"},
		{"G", "Fault", "1 out 0; 1 end"},
		{"F", "G", "1 uncaught F 0"},
		{"Object", "A", "1 uncaught Object 0"},
		{"Object", "Object", "1 out 0; 1 end"},
		{"B", "C A any", "1 out 1; 1 end"},
		{"B", "A B any", "1 out 0; 1 end"},
		{"B", "any B A", "1 out 0; 1 end"},
		{"B", "Fault C B", "1 out 2; 1 end"},
		{"Fault", "F G Fault any", "1 out 2; 1 end"},
		{"Main", "A B C F G any", "1 out 5; 1 end"},
	} {
		handlers := strings.Fields(strings.ReplaceAll(c.handlers, "any", "-"))
		for n := range handlers {
			handlers[n] = strings.TrimPrefix(handlers[n], "-")
		}
		is(t, "P15.4: "+c.class+" to "+c.handlers, thrownTo(t, c.class, handlers...), c.want)
	}
}

// From the first instruction to the last one, and not behind it; ranges one within the other.
func TestRangesOfHandlers(t *testing.T) {
	for code, want := range map[string]string{
		"nop; f: null; throw; g: pop; pushint 1; out; ret; catch f g g 0":                                                            "1 out 1; 1 end",
		"f: null; nop; throw; g: pop; pushint 1; out; ret; catch f g g 0":                                                            "1 out 1; 1 end",
		"pushint 0; ifone f; null; throw; f: nop; g: ret; h: pop; pushint 1; out; ret; catch f g h 0":                                "1 uncaught Fault 1",
		"f: nop; i: null; throw; h: pop; pushint 1; out; ret; g: pop; pushint 2; out; ret; catch f h g 0; catch i h h 0":             "1 out 2; 1 end",
		"f: nop; i: null; throw; h: pop; pushint 1; out; ret; g: pop; pushint 2; out; ret; catch i h h 0; catch f h g 0":             "1 out 1; 1 end",
		"f: nop; i: null; nop; throw; h: pop; pushint 1; out; ret; g: pop; pushint 2; out; ret; catch f i h 0; catch i h g 0":        "1 out 2; 1 end",
		"f: nop; i: null; throw; h: pop; pushint 1; out; ret; g: pop; pushint 2; out; ret; catch i h h 0 A; catch f h g 0 Fault":     "1 out 2; 1 end",
		"f: nop; i: null; throw; h: pop; pushint 1; out; ret; g: pop; pushint 2; out; ret; catch i h h 0 Fault; catch f h g 0 Fault": "1 out 1; 1 end",
	} {
		is(t, "P15.4: "+code, outcome(t, "Main.main() void: "+code), want)
	}
	// The Throw alone, from itself on; up to it, but not it.
	is(t, "P15.4: From", outcome(t, "Main.main() void: null; f: throw; g: pop; pushint 1; out; ret; catch f g g 0"), "1 out 1; 1 end")
	is(t, "P15.4: To", outcome(t, "Main.main() void: f: null; g: throw; h: pop; pushint 1; out; ret; catch f g h 0"), "1 uncaught Fault 1")
	// A handler that is among its own instructions, and throws on to another one.
	is(t, "P15.4: its own", outcome(t, "Main.main() void: f: pushint 1; pushint 0; div; out; goto g; h: dup; cast Fault; getfield Fault.code; pushint 3; same; ifone x; pop; pushint 8; out; ret; x: pop; null; throw; g: ret; catch f g h 0"), "1 out 8; 1 end")
	is(t, "P15.4: thrown on", outcome(t, "Main.main() void: f: new A; throw; h: pop; g: new B; throw; i: is B; out; ret; catch f h h 0; catch f i i 0"), "1 out 1; 1 end")
}

func TestWhatAHandlerBeginsWith(t *testing.T) {
	m := roomy(t, "Main.main() void: new B; store 1; pushint 4; store 2; pushint 9; pushint 8; load 1; f: throw; h: pop; ret; catch f h h 0 A")
	step(t, m, "1*8")
	is(t, "P15.4: the object alone is on the stack", lastFrame(m, 1), "Main.main 8 [@1 @5 i4] [@5] []")
	is(t, "P15.4: no other object is made", m.Heap().All(), []int{1, 5})
	m = roomy(t, "Main.main() void: pushint 9; f: pushint 1; pushint 0; rem; out; pop; ret; h: pop; ret; catch f h h 0 Fault")
	step(t, m, "1*4")
	is(t, "P15.4: a new Fault", lastFrame(m, 1)+m.Class(5), "Main.main 7 [@1] [@5] []Fault")
	code, _ := m.Heap().Get(5, 0)
	is(t, "P15.4: with its code", code, api.FArith)
}

// In a caller: its range has the Call.
func TestHandlersOfCallers(t *testing.T) {
	const methods = "Main.one() void: pushint 5; new A; store 1; enter 1; load 0; call Main.two; exit 1; pop; ret\nMain.two() void: enter 0; a: new B; throw; b: pop; exit 0; ret; catch b b b 0\n"
	two := strings.Replace(methods, "; catch b b b 0", "", 1)
	m := roomy(t, two+"Main.main() void: pushint 1; f: load 0; call Main.one; g: pop; pushint 7; out; ret; h: is B; out; ret; catch f g h 0")
	step(t, m, "1*3 1*6 1*2")
	is(t, "P15.4: ahead of it", fmt.Sprint(len(m.Threads()[0].Frames), lockWord(m.Lock(1)), lockWord(m.Lock(5))), "31 1 thin [] []1 1 thin [] []")
	step(t, m, "1")
	is(t, "P15.4: frames and their locks are gone", shown(m, 1)+lockWord(m.Lock(1))+lockWord(m.Lock(5)), "1 ready; Main.main 7 [@1] [@16] []0 0 thin [] []0 0 thin [] []")
	is(t, "P15.4", events(finish(t, m)), "1 out 1; 1 end")
	// The call isn't among the handler's, though what stands behind it is.
	is(t, "P15.4: behind the Call", outcome(t, two+"Main.main() void: load 0; call Main.one; f: ret; g: pop; pushint 3; out; ret; catch f g g 0"), "1 uncaught B 0")
	// The nearest frame that has one, even if one further up has one, too; its class counts.
	for class, want := range map[string]string{"A": "1 out 2; 1 end", "": "1 out 2; 1 end", "C": "1 out 1; 1 end"} {
		is(t, "P15.4: the nearest frame's: "+class, outcome(t, "Main.one() void: f: load 0; call Main.two; g: ret; h: pop; pushint 2; out; ret; catch f g h 0 "+class+"\nMain.two() void: new B; throw\nMain.main() void: f: load 0; call Main.one; g: ret; h: pop; pushint 1; out; ret; catch f g h 0 A"), want)
	}
	// FDepth, FNull of a Call are the caller's own.
	is(t, "P15.4: a Call's own fault", outcome(t, "Main.main() void: f: null; call A.run; g: ret; h: cast Fault; getfield Fault.code; out; ret; catch f g h 0"), "1 out 1; 1 end")
}

// lockers: an L that is entered by whoever is begun.
const lockers = "L: n int\nL.enters() void: enter 0; load 0; getfield L.n; out; exit 0; ret\n"

// All locks but the first Depth are exited, the last one first.
func TestWhichLocksAreExited(t *testing.T) {
	for depth, want := range []string{"[] 0 0 0 RRRR", "[1] 1 0 0 RBRR", "[1 2] 1 1 0 RBBR", "[1 2 3] 1 1 1 RBBB"} {
		exits := "pop; " + strings.Join(strings.SplitAfter("exit 3; exit 2; exit 1; ", "; ")[3-depth:], "") + "ret"
		m := roomy(t, lockers+"Main.main() void: new L; store 1; new L; store 2; new L; store 3; load 1; spawn L.enters; pop; load 2; spawn L.enters; pop; load 3; spawn L.enters; pop; enter 1; enter 2; enter 3; f: new A; throw; h: "+exits+"; catch f h h "+fmt.Sprint(depth))
		step(t, m, "1*18 2 3 4 1")
		is(t, "P15.4: ahead of it", states(m), "RBBB")
		step(t, m, "1")
		f := m.Threads()[0].Frames[0]
		owners := ""
		for _, at := range []int{5, 8, 11} {
			owners += fmt.Sprint(btoi(m.Lock(at).Owner == 1), " ")
		}
		is(t, fmt.Sprintf("P15.4: Depth %d", depth), fmt.Sprint(append([]int{}, f.Locks...), " ", owners, states(m)), want)
		is(t, "P15.4: the stack", len(f.Stack), 1)
		for n, at := range []int{5, 8, 11} {
			if n >= depth {
				is(t, "P15.4: it is handed over", fmt.Sprint(m.Lock(at).Owner, " ", lastFrame(m, n+2)), fmt.Sprintf("%d L.enters 1 [@%d] [] [0]", n+2, at))
			}
		}
		finish(t, m)
	}
}

func btoi(is bool) int {
	if is {
		return 1
	}
	return 0
}

// The last one first: where one object is locked by several locals, or a thread stands in line, the order is seen by counts.
func TestLocksThatAreTakenMoreThanOnce(t *testing.T) {
	m := roomy(t, lockers+"Main.main() void: new L; dup; store 1; dup; store 2; store 3; load 1; spawn L.enters; pop; enter 1; enter 2; enter 3; f: new A; throw; h: pop; exit 1; ret; catch f h h 1")
	step(t, m, "1*13 2 1")
	is(t, "P15.4: once less for each", lockWord(m.Lock(5))+states(m), "1 1 fat [2] []RB")
	step(t, m, "1*2")
	is(t, "P15.4: the last one", lockWord(m.Lock(5))+states(m), "2 1 fat [] []RR")
	// A caller has it, too.
	m = roomy(t, "Main.main() void: enter 0; f: load 0; call Main.in; g: exit 0; ret; h: pop; exit 0; ret; catch f g h 1\nMain.in() void: enter 0; new A; throw")
	step(t, m, "1*6")
	is(t, "P15.4: the caller's stays", lockWord(m.Lock(1))+lastFrame(m, 1), "1 1 thin [] []Main.main 5 [@1] [@5] [0]")
}

func TestWhoIsReadyBehindAThrow(t *testing.T) {
	// 3 and 4 stand in line for what 2 has entered in two frames; 5 waits for the end of 2.
	const text = lockers + "L.outer() void: enter 0; new L; store 1; enter 1; load 1; load 0; call L.inner; exit 1; exit 0; ret\nL.inner(L) void: load 1; spawn L.enters; pop; load 0; spawn L.enters; pop; enter 0; yield; new G; throw\nL.joins() void: pushint 2; join; ret\nMain.main() void: new L; dup; spawn L.outer; pop; spawn L.joins; join; ret"
	m := roomy(t, text)
	step(t, m, "1*5 2*14 1 3*2 4 5 2*2")
	is(t, "P15.4: ahead of it", states(m)+lockWord(m.Lock(5))+lockWord(m.Lock(8)), "JRJBB2 1 fat [4] []2 2 fat [5] []")
	step(t, m, "2")
	is(t, "P15.4: all that stood in line are ready, and who joined it", states(m)+lockWord(m.Lock(5))+lockWord(m.Lock(8)), "JERRR4 1 fat [] []5 1 fat [] []")
	is(t, "P15.4: the event", events(m), "2 uncaught G 0")
	is(t, "P15.4: where they stand", lastFrame(m, 3)+lastFrame(m, 4)+lastFrame(m, 5), "L.joins 2 [@5] [] []L.enters 1 [@5] [] [0]L.enters 1 [@8] [] [0]")
	is(t, "P15.6: it has no frames", shown(m, 2), "2 ended")
}

func TestUncaught(t *testing.T) {
	for _, c := range []struct{ main, want string }{
		{"new A; throw", "1 uncaught A 0"},
		{"new Object; throw", "1 uncaught Object 0"},
		{"load 0; throw", "1 uncaught Main 0"},
		{"new Fault; throw", "1 uncaught Fault 0"},
		{"new Fault; dup; pushint -77; putfield Fault.code; throw", "1 uncaught Fault -77"},
		{"new F; dup; pushint 5; putfield F.extra; dup; pushint 4; putfield Fault.code; throw", "1 uncaught F 4"},
		{"new G; dup; pushint " + least + "; putfield G.code; throw", "1 uncaught G " + least},
		// A field of that name is no Fault's code.
		{"new Own; dup; pushint 9; putfield Own.code; throw", "1 uncaught Own 0"},
		{"new A; dup; pushint 9; putfield A.n; throw", "1 uncaught A 0"},
		{"null; throw", "1 uncaught Fault 1"},
	} {
		is(t, "P15.4: "+c.main, outcome(t, "Own: code int\nMain.main() void: "+c.main), c.want)
	}
	m := roomy(t, "Main.main() void: enter 0; load 0; call Main.in; exit 0; ret\nMain.in() void: enter 0; new A; throw")
	step(t, m, "1*6")
	is(t, "P15.4: all is over", fmt.Sprint(shown(m, 1), lockWord(m.Lock(1)), m.Over(), m.Ready()), "1 ended0 0 thin [] []true []")
	// Others go on.
	is(t, "P15.4: one of two", outcome(t, "D\nD.f() void: null; throw\nMain.main() void: new D; spawn D.f; join; pushint 6; out; ret"), "2 uncaught Fault 1; 1 out 6; 1 end")
}

// No room for a Fault: nothing is thrown, no lock is exited.
func TestNoRoomForAFault(t *testing.T) {
	for main, ahead := range map[string]int{
		"null; throw; y: yield":          2,
		"pushint 1; pushint 0; div; pop": 3,
		"null; getfield A.n; pop":        2,
		"null; notify":                   2,
	} {
		m := begun(t, 6, false, "Main.main() void: enter 0; f: "+main+"; x: exit 0; ret; h: pop; exit 0; ret; catch f x h 1")
		step(t, m, fmt.Sprintf("1*%d", ahead))
		before := shown(m, 1)
		step(t, m, "1")
		is(t, "P15.4: "+main, events(m)+fmt.Sprint(m.Over(), m.Collections()), "1 memorytrue 1")
		is(t, "P15.4: nothing else is done", shown(m, 1), before)
		is(t, "P15.4: the lock", lockWord(m.Lock(1)), "1 1 thin [] []")
	}
}
