package interp

import (
	"fmt"
	"math"
	"testing"

	"loom/api"
)

// A main with values of all kinds, looked at ahead of each of its instructions.
func TestThreadsAtEachStep(t *testing.T) {
	m := roomy(t, "Main.main() void: pushint -4; store 1; pushcplx 1-2i; store 2; pushint 1; newarr; store 3; new B; store 4; null; store 5; load 2; load 3; enter 4; load 5; enter 0; load 4; call A.add2; exit 0; pop; exit 4; pop; pop; ret\nA.add2() void: enter 0; pushint 9; store 1; exit 0; ret")
	for _, want := range []string{
		"Main.main 0 [@1 - - - - -] [] []",
		"Main.main 1 [@1 - - - - -] [i-4] []",
		"Main.main 2 [@1 i-4 - - - -] [] []",
		"Main.main 3 [@1 i-4 - - - -] [c(1-2i)] []",
		"Main.main 4 [@1 i-4 c(1-2i) - - -] [] []",
		"Main.main 5 [@1 i-4 c(1-2i) - - -] [i1] []",
		"Main.main 6 [@1 i-4 c(1-2i) - - -] [[]5] []",
		"Main.main 7 [@1 i-4 c(1-2i) []5 - -] [] []",
		"Main.main 8 [@1 i-4 c(1-2i) []5 - -] [@8] []",
		"Main.main 9 [@1 i-4 c(1-2i) []5 @8 -] [] []",
		"Main.main 10 [@1 i-4 c(1-2i) []5 @8 -] [null] []",
		"Main.main 11 [@1 i-4 c(1-2i) []5 @8 null] [] []",
		"Main.main 12 [@1 i-4 c(1-2i) []5 @8 null] [c(1-2i)] []",
		"Main.main 13 [@1 i-4 c(1-2i) []5 @8 null] [c(1-2i) []5] []",
		"Main.main 14 [@1 i-4 c(1-2i) []5 @8 null] [c(1-2i) []5] [4]",
		"Main.main 15 [@1 i-4 c(1-2i) []5 @8 null] [c(1-2i) []5 null] [4]",
		"Main.main 16 [@1 i-4 c(1-2i) []5 @8 null] [c(1-2i) []5 null] [4 0]",
		"Main.main 17 [@1 i-4 c(1-2i) []5 @8 null] [c(1-2i) []5 null @8] [4 0]",
		"Main.main 17 [@1 i-4 c(1-2i) []5 @8 null] [c(1-2i) []5 null] [4 0]; A.add2 0 [@8 -] [] []",
		"Main.main 17 [@1 i-4 c(1-2i) []5 @8 null] [c(1-2i) []5 null] [4 0]; A.add2 1 [@8 -] [] [0]",
		"Main.main 17 [@1 i-4 c(1-2i) []5 @8 null] [c(1-2i) []5 null] [4 0]; A.add2 2 [@8 -] [i9] [0]",
		"Main.main 17 [@1 i-4 c(1-2i) []5 @8 null] [c(1-2i) []5 null] [4 0]; A.add2 3 [@8 i9] [] [0]",
		"Main.main 17 [@1 i-4 c(1-2i) []5 @8 null] [c(1-2i) []5 null] [4 0]; A.add2 4 [@8 i9] [] []",
		"Main.main 18 [@1 i-4 c(1-2i) []5 @8 null] [c(1-2i) []5 null] [4 0]",
		"Main.main 19 [@1 i-4 c(1-2i) []5 @8 null] [c(1-2i) []5 null] [4]",
		"Main.main 20 [@1 i-4 c(1-2i) []5 @8 null] [c(1-2i) []5] [4]",
		"Main.main 21 [@1 i-4 c(1-2i) []5 @8 null] [c(1-2i) []5] []",
		"Main.main 22 [@1 i-4 c(1-2i) []5 @8 null] [c(1-2i)] []",
		"Main.main 23 [@1 i-4 c(1-2i) []5 @8 null] [] []",
	} {
		is(t, "P15.6: Threads", shown(m, 1), "1 ready; "+want)
		step(t, m, "1")
	}
	is(t, "P15.6: Threads", shown(m, 1), "1 ended")
}

func TestAllStates(t *testing.T) {
	m := roomy(t, "L: n int\nL.waits() void: enter 0; load 0; wait; exit 0; ret\nL.enters() void: enter 0; yield; exit 0; ret\nL.joins() void: pushint 1; join; ret\nL.ends() void: ret\nMain.main() void: new L; store 1; load 1; spawn L.waits; pop; load 1; spawn L.enters; pop; load 1; spawn L.enters; pop; load 1; spawn L.joins; pop; load 1; spawn L.ends; pop; yield; ret")
	step(t, m, "1*17 2*3 3 4 5*2 6")
	is(t, "P15.6: states", states(m), "RWRBJE")
	for n, want := range []string{"1 ready; Main.main 17 [@1 @5] [] []", "2 waiting; L.waits 2 [@5] [] [0]", "3 ready; L.enters 1 [@5] [] [0]", "4 blocked; L.enters 0 [@5] [] []", "5 joining; L.joins 1 [@5] [] []", "6 ended"} {
		is(t, "P15.6: Threads", shown(m, n+1), want)
	}
	is(t, "P15.6: how many", len(m.Threads()), 6)
	is(t, "P15.6: Ready", m.Ready(), []int{1, 3})
}

// What may not be read isn't shown, whatever lies there.
func TestWhatMayNotBeRead(t *testing.T) {
	for _, c := range []struct{ main, steps, want string }{
		{"pushint 3; store 2; ret", "1", "Main.main 1 [@1 - -] [i3] []"},
		{"pushint 3; store 2; ret", "1*2", "Main.main 2 [@1 - i3] [] []"},
		// Set on one way alone; by unlike kinds; by null and another one.
		{"pushint 3; store 1; pushint 0; ifone x; pushint 4; store 2; x: ret", "1*6", "Main.main 6 [@1 i3 -] [] []"},
		{"pushint 3; store 1; pushint 0; ifone x; pushint 4; store 2; nop; x: ret", "1*6", "Main.main 6 [@1 i3 i4] [] []"},
		{"pushint 3; store 1; pushint 0; ifone x; new A; store 1; x: ret", "1*6", "Main.main 6 [@1 -] [] []"},
		{"pushint 3; store 1; pushint 0; ifone x; pushcplx 1i; store 1; x: ret", "1*6", "Main.main 6 [@1 -] [] []"},
		{"pushcplx 1i; store 1; pushint 0; ifone x; pushint 3; store 1; x: ret", "1*6", "Main.main 6 [@1 -] [] []"},
		{"new A; store 1; pushint 0; ifone x; pushint 1; newarr; store 1; x: ret", "1*7", "Main.main 7 [@1 -] [] []"},
		{"pushint 2; newarr; store 1; pushint 0; ifone x; null; store 1; x: ret", "1*5", "Main.main 5 [@1 []5] [] []"},
		{"pushint 2; newarr; store 1; pushint 0; ifone x; null; store 1; x: ret", "1*7", "Main.main 7 [@1 null] [] []"},
		{"null; store 1; pushint 0; ifone x; new A; store 1; x: ret", "1*6", "Main.main 6 [@1 @5] [] []"},
		{"null; store 1; pushint 0; ifone x; pushint 3; store 1; x: ret", "1*6", "Main.main 6 [@1 -] [] []"},
		// Two objects of unlike classes are an object, whatever they are.
		{"new A; store 1; pushint 0; ifone x; new F; store 1; x: ret", "1*6", "Main.main 6 [@1 @16] [] []"},
		// In a loop: what comes back from its end counts ahead of its beginning.
		{"pushint 3; store 1; x: yield; pushcplx 1i; store 1; goto x", "1*2", "Main.main 2 [@1 -] [] []"},
		{"pushint 3; store 1; x: yield; pushcplx 1i; store 1; goto x", "1*4", "Main.main 4 [@1 -] [c(0+1i)] []"},
		{"pushint 3; store 1; x: yield; pushcplx 1i; store 1; goto x", "1*5", "Main.main 5 [@1 c(0+1i)] [] []"},
		{"null; store 2; x: load 2; store 3; pushint 1; newarr; store 2; goto x", "1*4", "Main.main 4 [@1 - null null] [] []"},
		{"null; store 2; x: null; store 3; pushint 1; newarr; store 2; load 3; pop; goto x", "1*12", "Main.main 4 [@1 - []5 null] [] []"},
		// A handler begins with what any instruction of its range may have left.
		{"pushint 3; store 1; f: pushcplx 1i; store 1; null; throw; h: pop; ret; catch f h h 0", "1*6", "Main.main 6 [@1 -] [@5] []"},
		{"pushint 3; store 1; pushcplx 1i; store 1; f: null; throw; h: pop; ret; catch f h h 0", "1*6", "Main.main 6 [@1 c(0+1i)] [@5] []"},
		{"f: pushint 3; store 1; null; throw; h: pop; ret; catch f h h 0", "1*4", "Main.main 4 [@1 -] [@5] []"},
		// The receiver's local and parameters' are locals like others.
		{"pushint 0; ifone x; pushint 1; store 0; x: ret", "1*4", "Main.main 4 [-] [] []"},
		{"pushint 0; ifone x; null; store 0; x: ret", "1*4", "Main.main 4 [null] [] []"},
		// What instructions put, by their kinds.
		{"new A; getfield A.c; store 1; new A; getfield A.l; store 2; new A; getfield A.o; store 3; pushint 1; newarr; arrlen; store 4; new A; is B; store 5; ret", "1*16", "Main.main 16 [@1 c(0+0i) null null i1 i0] [] []"},
	} {
		m := roomy(t, "Main.main() void: "+c.main)
		step(t, m, c.steps)
		is(t, "P15.6: "+c.main, lastFrame(m, 1), c.want)
	}
}

// What each instruction puts is of the kind that something else has that stands there on another way; what has another kind is seen no more.
func TestKindsOfWhatIsPut(t *testing.T) {
	pushes := map[string]string{"int": "pushint 1", "cplx": "pushcplx 1i", "arr": "pushint 0; newarr", "A": "new A"}
	for one, kind := range map[string]string{
		"pushint 1": "int", "pushcplx 2i": "cplx", "load 2": "arr", "load 3": "A", "load 4": "int", "load 5": "cplx", "load 0": "A", "load 4; dup; pop": "int",
		"load 5; dup; pop": "cplx", "load 4; load 4; add": "int", "load 4; load 4; sub": "int", "load 4; load 4; mul": "int", "load 4; load 4; div": "int", "load 4; load 4; rem": "int",
		"load 4; neg": "int", "load 4; load 4; less": "int", "load 4; load 4; same": "int", "load 5; load 5; cadd": "cplx", "load 5; load 5; csub": "cplx", "load 5; load 5; cmul": "cplx",
		"load 5; cconj": "cplx", "load 5; load 5; csame": "int", "load 3; load 3; rsame": "int", "new B": "A", "load 3; getfield A.n": "int", "load 3; getfield A.c": "cplx",
		"load 3; getfield A.l": "arr", "load 3; getfield A.o": "A", "load 4; newarr": "arr", "load 2; arrlen": "int", "load 2; load 4; pushint 1; sub; arrget": "int",
		"load 3; load 4; load 4; call A.add": "int", "load 0; call Main.c": "cplx", "load 0; call Main.l": "arr", "load 0; call Main.o": "A", "load 3; cast Object": "A", "load 3; is A": "int", "load 3; spawn A.run": "int",
	} {
		for other, push := range pushes {
			m := roomy(t, "Main.c() cplx: pushcplx 5i; retval\nMain.l() arr: pushint 5; newarr; retval\nMain.o() A: new B; retval\nMain.main() void: pushint 5; newarr; store 2; new A; store 3; pushint 1; store 4; pushcplx 3i; store 5; "+push+"; store 1; pushint 0; ifone x; "+one+"; store 1; x: yield; yield; ret")
			last := len(m.threads[0].frames[0].method.code) - 2
			for m.Threads()[0].Frames[0].Pc < last {
				step(t, m, "1")
			}
			hidden := m.Threads()[0].Frames[0].Locals[1].Kind == api.TTop
			is(t, "P15.6: "+one+", or "+push, hidden, kind != other)
		}
	}
}

// Parameters have kinds from the beginning on.
func TestKindsOfParameters(t *testing.T) {
	m := roomy(t, "Main.in(int cplx arr A) void: pushint 0; ifone x; pushint 2; store 1; pushcplx 2i; store 2; pushint 0; newarr; store 3; new B; store 4; x: yield; ret\nMain.main() void: load 0; pushint 1; pushcplx 1i; null; new A; call Main.in; ret")
	step(t, m, "1*17")
	is(t, "P15.6", lastFrame(m, 1), "Main.in 11 [@1 i2 c(0+2i) []16 @18] [] []")
}

// What is on the stack where ways meet goes into a local, and meets something else there.
func TestKindsThatMeetTwice(t *testing.T) {
	for _, ways := range [][2]string{{"null", "pushint 1; newarr"}, {"pushint 1; newarr", "null"}} {
		for second, want := range map[string]string{"new A": "-", "pushint 4; newarr": "[]5", "null": "[]5"} {
			text := "Main.main() void: pushint 0; ifone a; " + ways[0] + "; goto x; a: " + ways[1] + "; x: store 1; pushint 0; ifone y; goto z; y: " + second + "; store 1; z: yield; ret"
			m := roomy(t, text)
			last := len(m.threads[0].frames[0].method.code) - 2
			for m.Threads()[0].Frames[0].Pc < last {
				step(t, m, "1")
			}
			if ways[0] == "null" && want != "-" {
				want = "null"
			}
			is(t, "P15.6: "+text, lastFrame(m, 1), fmt.Sprintf("Main.main %d [@1 %s] [] []", last, want))
		}
	}
}

// All that calls leave by kinds, where ways meet.
func TestWhatCallsLeave(t *testing.T) {
	m := roomy(t, "E\nE.i(cplx arr) int: pushint 2; retval\nE.c(int) cplx: pushcplx 2i; retval\nE.l() arr: null; retval\nE.v(int int) void: ret\nMain.main() void: new E; store 1; pushint 0; ifone x; x: load 1; pushcplx 1i; null; call E.i; store 2; load 1; pushint 1; call E.c; store 3; load 1; call E.l; store 4; load 1; pushint 1; pushint 2; call E.v; pushint 5; store 5; load 1; spawn E.w; store 6; yield; ret\nE.w() void: ret")
	for m.Threads()[0].Frames[0].Pc < 26 {
		step(t, m, "1")
	}
	is(t, "P15.6", lastFrame(m, 1), "Main.main 26 [@1 @5 i2 c(0+2i) null i5 i2] [] []")
}

// What was an object's address when it was stored is not to be seen once it may be another one's, or none's.
func TestWhatIsGoneIsNotShown(t *testing.T) {
	m := begun(t, 4+8, false, small+"Main.main() void: new J; store 1; pushint 0; ifone x; goto y; x: pushint 1; store 1; y: new J; pop; new J; pop; new J; pop; new J; pop; ret")
	step(t, m, "1*5")
	is(t, "P15.6: it may be either", lastFrame(m, 1), "Main.main 7 [@1 -] [] []")
	step(t, m, "1*7")
	is(t, "P15.2: it is gone", fmt.Sprint(m.Collections(), m.Heap().All(), lastFrame(m, 1)), "1 [1 5]Main.main 14 [@1 -] [@5] []")
}

func TestLockAndClass(t *testing.T) {
	m := roomy(t, "Main.main() void: new A; store 1; new Fault; store 2; pushint 3; newarr; store 3; new Object; store 4; enter 1; enter 0; exit 0; yield; exit 1; ret")
	step(t, m, "1*12")
	classes := map[int]string{1: "Main", 5: "A", 16: "Fault", 19: "ints", 24: "Object"}
	locks := map[int]string{5: "1 1 thin [] []"}
	strange := []int{math.MinInt, math.MaxInt, -1, 2049, 5 + 1<<32, 5 - 1<<32}
	for at := -3; at < 2055; at++ {
		strange = append(strange, at)
	}
	for _, at := range strange {
		want := locks[at]
		if want == "" {
			want = "0 0 thin [] []"
		}
		if m.Class(at) != classes[at] || lockWord(m.Lock(at)) != want {
			t.Errorf("P15.6: at %d: %q, %s", at, m.Class(at), lockWord(m.Lock(at)))
		}
	}
	// A class of that name is another thing.
	m = roomy(t, "ints\nMain.main() void: new ints; pop; ret")
	step(t, m, "1")
	is(t, "P15.6: a class of that name", fmt.Sprint(m.Class(5), m.Threads()[0].Frames[0].Stack[0].Kind), fmt.Sprint("ints", api.TRef))
}

func TestHeapIsTheMachines(t *testing.T) {
	m := roomy(t, "Main.main() void: new A; pop; ret")
	h := m.Heap()
	is(t, "P15.6: Heap", fmt.Sprint(h.All(), h.Size()), "[1] 2048")
	step(t, m, "1")
	is(t, "P15.6: Heap", fmt.Sprint(h.All(), m.Heap() == h), "[1 5] true")
}
