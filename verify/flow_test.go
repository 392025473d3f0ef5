package verify

import (
	"strconv"
	"strings"
	"testing"

	"loom/api"
)

// twoWays: behind a branch one way stores a value of one type in local 1, the other one of another (empty: neither), and both meet.
func twoWays(one, other, then string) body {
	store := func(word string) string {
		if word == "" {
			return "nop;"
		}
		return push([]string{word}) + "store 1;"
	}
	return body{locals: 1, stack: 2, code: "pushint 7; ifzero else;" + store(one) + "goto both; else:" + store(other) + "both:" + then + "ret"}
}

// merges: what two types have in common, both ways round.
func merges() [][3]string {
	list := [][3]string{
		{"null", "arr", "arr"}, {"B", "C", "A"}, {"D", "C", "A"}, {"D", "B", "B"}, {"D", "A", "A"}, {"A", "Object", "Object"}, {"A", "Fault", "Object"}, {"E", "Fault", "Fault"}, {"E", "D", "Object"}, {"Main", "A", "Object"},
		{"int", "cplx", "-"}, {"int", "arr", "-"}, {"int", "null", "-"}, {"int", "A", "-"}, {"cplx", "arr", "-"}, {"cplx", "null", "-"}, {"cplx", "Object", "-"}, {"arr", "Object", "-"}, {"arr", "D", "-"},
	}
	for _, class := range below("Object") {
		list = append(list, [3]string{"null", class, class})
	}
	for _, m := range list {
		list = append(list, [3]string{m[1], m[0], m[2]})
	}
	for _, word := range strings.Fields(everyType) {
		list = append(list, [3]string{word, word, word})
	}
	return list
}

func TestLocalsThatMeet(t *testing.T) {
	for _, m := range merges() {
		states := twoWays(m[0], m[1], "nop;").accepted(t)
		if got := tell(states[len(states)-2]); got != "Main "+m[2]+" |" {
			t.Errorf("P8.1: %s and %s meet: %s", m[0], m[1], got)
		}
		b := twoWays(m[0], m[1], "load 1; nop;")
		if m[2] == "-" {
			b.refused(t)
			continue
		}
		states = b.accepted(t)
		if got := tell(states[len(states)-2]); got != "Main "+m[2]+" | "+m[2] {
			t.Errorf("P8.1: %s and %s meet and are loaded: %s", m[0], m[1], got)
		}
	}
	for _, word := range strings.Fields(everyType) {
		for _, b := range []body{twoWays(word, "", "nop;"), twoWays("", word, "nop;")} {
			states := b.accepted(t)
			if got := tell(states[len(states)-2]); got != "Main - |" {
				t.Errorf("P8.1: %s meets nothing: %s", word, got)
			}
		}
		twoWays(word, "", "load 1; pop;").refused(t)
		twoWays("", word, "load 1; pop;").refused(t)
		// What isn't set may be set again.
		twoWays("", word, "pushint 7; store 1; load 1; out;").accepted(t)
	}
	twoWays("", "", "load 1;").refused(t)
}

// What has met is asked for by its type: neither of the two.
func TestWhatHasMetFitsWhereBothFit(t *testing.T) {
	twoWays("B", "C", "load 1; getfield A.n; out;").accepted(t)
	twoWays("B", "C", "load 1; getfield B.b; pop;").refused(t)
	twoWays("B", "C", "load 1; getfield C.n; pop;").refused(t)
	twoWays("B", "Fault", "load 1; getfield A.n; pop;").refused(t)
	twoWays("B", "Fault", "load 1; notify;").accepted(t)
	twoWays("null", "arr", "load 1; arrlen; out;").accepted(t)
	twoWays("null", "arr", "load 1; notify;").refused(t)
	twoWays("null", "D", "load 1; getfield B.b; pop;").accepted(t)
	twoWays("null", "D", "load 1; arrlen; pop;").refused(t)
}

func TestPlacesOfTheStackThatMeet(t *testing.T) {
	for _, m := range merges() {
		b := body{stack: 4, code: "pushcplx 7i; pushint 7; ifzero else;" + push([]string{m[0], "arr"}) + "goto both; else:" + push([]string{m[1], "null"}) + "both: nop; ret"}
		if m[2] == "-" {
			b.refused(t)
			// Nobody need take it.
			b.code = strings.Replace(b.code, "both: nop", "both: pop; pop", 1)
			b.refused(t)
			continue
		}
		states := b.accepted(t)
		if got := tell(states[len(states)-2]); got != "Main | cplx "+m[2]+" arr" {
			t.Errorf("P8.1: %s and %s meet on the stack: %s", m[0], m[1], got)
		}
	}
	// In the lowest place, and in the highest.
	body{stack: 2, code: "pushint 7; ifzero else; pushint 7; null; goto both; else: null; null; both: ret"}.refused(t)
	body{stack: 2, code: "pushint 7; ifzero else; null; pushint 7; goto both; else: null; null; both: ret"}.refused(t)
	body{stack: 2, code: "pushint 7; ifzero else; null; pushint 7; goto both; else: null; pushint 7; both: ret"}.accepted(t)
}

func TestStacksOfUnlikeHeights(t *testing.T) {
	for one := range 4 {
		for other := range 4 {
			b := body{stack: 9, code: "pushint 7; ifzero else;" + strings.Repeat("null;", one) + "goto both; else:" + strings.Repeat("null;", other) + "nop; both: ret"}
			if _, err := b.ask(t); (err == api.OK) != (one == other) {
				t.Errorf("P8.1: heights %d and %d: %d", one, other, err)
			}
		}
	}
	// With a jump to what is ahead, behind, and itself.
	body{stack: 9, code: "again: pushint 7; goto again"}.refused(t)
	body{stack: 9, code: "pushint 7; again: pop; goto again"}.refused(t)
	body{stack: 9, code: "pushint 7; pushint 7; ifone out; pop; out: ret"}.refused(t)
	body{stack: 9, code: "pushint 7; again: pushint 7; ifone again; ret"}.accepted(t)
	body{stack: 9, code: "pushint 7; again: dup; ifone again; ret"}.accepted(t)
	body{stack: 9, code: "again: goto again"}.has(t, "Main |")
	// Entry meets what comes back to instruction 0.
	body{stack: 9, code: "again: nop; null; goto again"}.refused(t)
	body{stack: 9, code: "again: nop; null; pop; goto again"}.accepted(t)
	body{stack: 9, code: "again: pushint 7; dup; ifone again; ret"}.refused(t)
}

func TestHowHighTheStackMayBe(t *testing.T) {
	for _, stack := range []int{0, 1, 2, 3, 63, 64} {
		b := body{stack: stack, code: strings.Repeat("pushint 7;", stack) + "ret"}
		b.accepted(t)
		if stack < 64 {
			b.code = "pushint 7;" + b.code
			b.refused(t)
		}
	}
	body{stack: 1, code: "null; pop; null; pop; null; ret"}.accepted(t)
	body{stack: 1, code: "null; pop; null; null; pop; pop; ret"}.refused(t)
	// What is taken makes room for what is put.
	body{stack: 3, code: "new A; pushint 7; pushint 7; call A.add(); ret"}.accepted(t)
	body{stack: 1, code: "pushint 7; newarr; arrlen; neg; ret"}.accepted(t)
	body{stack: 1, code: "goto out; null; null; null; out: ret"}.accepted(t)
}

func TestStackAtAHandler(t *testing.T) {
	for _, code := range []string{"x: nop; y: ret; z: pop; ret; catch x y z *", "x: nop; y: ret; z: throw; catch x y z A", "x: y: nop; ret; z: ret; catch x z z *"} {
		body{stack: 1, code: code}.accepted(t)
		body{stack: 0, code: code}.refused(t)
	}
	// No instruction of its range is reached: nothing comes to it.
	b := body{code: "goto y; x: nop; y: ret; z: pop; ret; catch x y z *"}
	b.has(t, "Main |\n.\nMain |\n.\n.")
}

func TestHandlers(t *testing.T) {
	// One instruction; its own locals, not those behind it.
	body{locals: 1, stack: 1, code: "null; x: store 1; y: ret; z: ret; catch x y z A"}.has(t, `
		Main - |
		Main - | null
		Main null |
		Main - | A`)
	body{locals: 1, stack: 1, code: "null; store 1; x: nop; y: ret; z: ret; catch x y z *"}.has(t, `
		Main - |
		Main - | null
		Main null |
		Main null |
		Main null | Object`)
	// Several, which change locals: what they have in common.
	body{locals: 2, stack: 1, code: "new D; store 1; x: new B; store 1; new C; store 1; pushint 7; store 2; y: ret; z: ret; catch x y z E"}.has(t, `
		Main - - |
		Main - - | D
		Main D - |
		Main D - | B
		Main B - |
		Main B - | C
		Main C - |
		Main C - | int
		Main C int |
		Main A - | E`)
	// From is in it, To isn't.
	body{locals: 1, stack: 1, code: "new D; store 1; x: nop; new B; store 1; y: nop; pushint 7; store 1; ret; z: ret; catch x y z *"}.has(t, `
		Main - |
		Main - | D
		Main D |
		Main D |
		Main D | B
		Main B |
		Main B |
		Main B | int
		Main int |
		Main D | Object`)
	// Over all of it, whatever stops or jumps there, itself too.
	body{locals: 1, stack: 1, code: "x: null; store 1; goto y; y: ret; z: pop; ret; w: ret; catch x w z Fault"}.has(t, `
		Main - |
		Main - | null
		Main null |
		Main null |
		Main - | Fault
		Main - |
		.`)
	body{locals: 1, stack: 1, code: "x: null; store 1; goto y; y: ret; z: ret; w: ret; catch x w z Fault"}.has(t, `
		Main - |
		Main - | null
		Main null |
		Main null |
		Main - | Fault
		.`)
}

// A handler that stands in its own range hands on what it has set.
func TestHandlerInItsOwnRange(t *testing.T) {
	body{locals: 2, stack: 1, code: "new D; store 1; x: new B; throw; z: store 1; goto x; y: ret; catch x y z A"}.has(t, `
		Main - - |
		Main - - | D
		Main A - |
		Main A - | B
		Main A - | A
		Main A - |
		.`)
	b := body{locals: 2, stack: 1, code: "new D; store 1; x: new B; throw; z: throw; y: ret; catch x y z A"}
	b.has(t, `
		Main - - |
		Main - - | D
		Main D - |
		Main D - | B
		Main D - | A
		.`)
	b.code = "new D; store 1; x: new B; throw; z: nop; new C; store 1; throw; y: ret; catch x z z A"
	b.refused(t)
	b.stack = 2
	b.has(t, `
		Main - - |
		Main - - | D
		Main D - |
		Main D - | B
		Main D - | A
		Main D - | A
		Main D - | A C
		Main C - | A
		.`)
	// Its own locals come round to it: D, then A.
	b.code = "new D; store 1; x: new B; throw; z: new C; store 1; throw; y: ret; catch x y z A"
	b.has(t, `
		Main - - |
		Main - - | D
		Main D - |
		Main D - | B
		Main A - | A
		Main A - | A C
		Main C - | A
		.`)
	// The target may be instruction 0, which begins with an empty stack.
	b.code = "x: nop; ret; y: ret; catch x y x *"
	b.refused(t)
}

func TestSeveralHandlersOfOneInstruction(t *testing.T) {
	// All of them, not the first alone; two with one target have their classes in common.
	body{stack: 1, code: "x: nop; y: ret; z: ret; w: ret; catch x y z A; catch x y w *; catch x y z B"}.has(t, `
		Main |
		Main |
		Main | A
		Main | Object`)
	body{stack: 1, code: "x: nop; y: ret; z: ret; w: ret; catch x y z D; catch x y z C; catch y z w E"}.has(t, `
		Main |
		Main |
		Main | A
		Main | E`)
	body{stack: 1, code: "x: nop; y: ret; z: ret; catch x y z D; catch y z z Fault"}.has(t, `
		Main |
		Main |
		Main | Object`)
	// A way that comes to the target by itself must bring one object.
	body{stack: 1, code: "x: new B; y: goto z; z: ret; catch x y z C"}.has(t, `
		Main |
		Main | B
		Main | A`)
	body{stack: 1, code: "x: null; y: goto z; z: ret; catch x y z C"}.has(t, `
		Main |
		Main | null
		Main | C`)
	body{stack: 1, code: "x: pushint 7; y: goto z; z: ret; catch x y z *"}.refused(t)
	body{stack: 1, code: "x: pushint 7; newarr; y: goto z; z: ret; catch x y z *"}.refused(t)
	body{stack: 1, code: "x: nop; y: goto z; z: ret; catch x y z *"}.refused(t)
}

// As many handlers as there may be.
func TestMostHandlers(t *testing.T) {
	text := "x: nop; y: ret; z: ret;"
	for range 15 {
		text += "catch x y z D;"
	}
	b := body{stack: 1, code: text + "catch x y z B"}
	b.has(t, "Main |\nMain |\nMain | B")
}

func TestLoopsGoneThroughMoreThanOnce(t *testing.T) {
	// The second time local 1 is an A, the third time local 2 is, and so on.
	body{params: "D D D C", stack: 1, code: "again: nop; load 2; store 1; load 3; store 2; load 4; store 3; pushint 7; ifone again; ret"}.has(t, `
		Main A A A C |
		Main A A A C |
		Main A A A C | A
		Main A A A C |
		Main A A A C | A
		Main A A A C |
		Main A A A C | C
		Main A A C C |
		Main A A C C | int
		Main A A C C |`)
	// What is loaded in the first time through isn't set in the fourth.
	b := body{params: "int int int cplx", stack: 1, code: "again: load 1; out; load 2; store 1; load 3; store 2; load 4; store 3; pushint 7; ifone again; ret"}
	b.refused(t)
	b.code = strings.Replace(b.code, "load 4", "load 3", 1)
	b.accepted(t)
	// Null becomes a D, a B, an A, an Object.
	body{locals: 1, stack: 1, code: `null; store 1; again: load 1; pop; pushint 7; ifone a; pushint 7; ifone b; pushint 7; ifone c; pushint 7; ifone d; ret;
		a: new D; store 1; goto again; b: new B; store 1; goto again; c: new C; store 1; goto again; d: load 0; store 1; goto again`}.has(t, `
		Main - |
		Main - | null`+strings.Repeat("\nMain Object |\nMain Object | Object", 1)+strings.Repeat("\nMain Object |\nMain Object | int", 4)+`
		Main Object |
		Main Object |
		Main Object | D
		Main D |
		Main Object |
		Main Object | B
		Main B |
		Main Object |
		Main Object | C
		Main C |
		Main Object |
		Main Object | Main
		Main Main |`)
}

// A chain of as many locals as there may be, each one handed on once each time through.
func TestLoopGoneThroughOftenest(t *testing.T) {
	text := "null; store 1;"
	for at := 2; at < 32; at++ {
		text += "null; store " + strconv.Itoa(at) + ";"
	}
	text += "again:"
	for at := 1; at < 31; at++ {
		text += "load " + strconv.Itoa(at+1) + "; store " + strconv.Itoa(at) + ";"
	}
	b := body{locals: 31, stack: 1, code: text + "load 0; store 31; pushint 7; ifone again; ret"}
	states := b.accepted(t)
	// The last of all to become a Main, and what is stored over it ahead of the end.
	if got := tell(states[62]); got != "Main"+strings.Repeat(" Main", 31)+" |" {
		t.Errorf("P8.1: at the loop's head: %s", got)
	}
	// With a number handed on instead, nothing may be loaded at last.
	b.code = text + "pushint 7; store 31; pushint 7; ifone again; ret"
	b.refused(t)
}

func TestJumps(t *testing.T) {
	// Ahead, over what is never run; behind.
	body{stack: 2, code: "goto b; a: out; ret; b: pushint 7; goto a"}.has(t, "Main |\nMain | int\nMain |\nMain |\nMain | int")
	for _, op := range []string{"ifzero", "ifone"} {
		// Both ways are gone.
		body{locals: 1, stack: 1, code: "pushint 7;" + op + " a; null; store 1; ret; a: new A; store 1; ret"}.has(t, `
			Main - |
			Main - | int
			Main - |
			Main - | null
			Main null |
			Main - |
			Main - | A
			Main A |`)
		body{stack: 1, code: "pushint 7;" + op + " a; add; a: ret"}.refused(t)
		body{stack: 1, code: "pushint 7;" + op + " a; ret; a: add; ret"}.refused(t)
		body{stack: 1, code: "a: pushint 7;" + op + " a; ret"}.has(t, "Main |\nMain | int\nMain |")
		// To itself: it takes one each time.
		body{stack: 1, code: "pushint 7; a:" + op + " a; ret"}.refused(t)
		// To the one behind it.
		body{stack: 1, code: "pushint 7;" + op + " a; a: ret"}.has(t, "Main |\nMain | int\nMain |")
	}
}

func TestWhatIsNeverReached(t *testing.T) {
	body{locals: 2, stack: 1, code: "goto end; add; load 2; x: putfield A.n; retval; enter 1; spawn A.say(); goto x; end: ret; null; retval"}.has(t, "Main - - |\n.\n.\n.\n.\n.\n.\n.\nMain - - |\n.\n.")
	body{stack: 1, code: "ret; x: add; y: ret; z: throw; catch x y z *"}.has(t, "Main |\n.\n.\n.")
	body{stack: 1, code: "ret; add; ret"}.has(t, "Main |\n.\n.")
	body{stack: 1, code: "null; throw; add; ret"}.has(t, "Main |\nMain | null\n.\n.")
	body{ret: "int", stack: 1, code: "pushint 7; retval; ret"}.has(t, "Main |\nMain | int\n.")
	for _, s := range (body{stack: 1, code: "ret; add; ret"}).accepted(t)[1:] {
		if show(s) != show(api.State{}) {
			t.Errorf("P8.1: a state that isn't reached: %+v", s)
		}
	}
}

// The longest code, the highest stack, the most locals.
func TestLongestMethod(t *testing.T) {
	b := body{locals: 31, stack: 64, code: strings.Repeat("pushint 7;", 64) + strings.Repeat("pop;", 64) + strings.Repeat("nop;", 71) + "ret"}
	states := b.accepted(t)
	if got := tell(states[64]); got != "Main"+strings.Repeat(" -", 31)+" |"+strings.Repeat(" int", 64) {
		t.Errorf("P8.1: %s", got)
	}
	b.code = strings.Repeat("pushint 7;", 64) + strings.Repeat("pop;", 65) + strings.Repeat("nop;", 70) + "ret"
	b.refused(t)
}
