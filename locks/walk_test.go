package locks

import (
	"strconv"
	"strings"
	"testing"

	"loom/api"
)

// enters, exits: instructions of locals 0 to count - 1, the other way round.
func enters(count int) string {
	text := ""
	for local := range count {
		text += "enter " + strconv.Itoa(local) + ";"
	}
	return text
}

func exits(count int) string {
	text := ""
	for local := range count {
		text = "exit " + strconv.Itoa(local) + ";" + text
	}
	return text
}

func TestHowManyLocks(t *testing.T) {
	has(t, "ret", "-")
	has(t, "nop; load 1; pop; yield; ret", "- - - - -")
	has(t, "enter 1; exit 1; ret", "- 1 -")
	has(t, "enter 0; exit 0; ret", "- 0 -")
	has(t, enters(2)+exits(2)+"ret", "- 0 0.1 0 -")
	has(t, enters(3)+exits(3)+"ret", "- 0 0.1 0.1.2 0.1 0 -")
	has(t, enters(5)+exits(5)+"ret", "- 0 0.1 0.1.2 0.1.2.3 0.1.2.3.4 0.1.2.3 0.1.2 0.1 0 -")
	has(t, enters(6)+exits(6)+"ret", "- 0 0.1 0.1.2 0.1.2.3 0.1.2.3.4 0.1.2.3.4.5 0.1.2.3.4 0.1.2.3 0.1.2 0.1 0 -")
	unfit(t, enters(7)+exits(7)+"ret")
	unfit(t, enters(7)+"null; throw")
	has(t, enters(6)+"null; throw", "- 0 0.1 0.1.2 0.1.2.3 0.1.2.3.4 0.1.2.3.4.5 0.1.2.3.4.5")
	// Another one in the place of one that was exited isn't a seventh.
	has(t, enters(6)+"exit 5; enter 6; exit 6;"+exits(5)+"ret", "- 0 0.1 0.1.2 0.1.2.3 0.1.2.3.4 0.1.2.3.4.5 0.1.2.3.4 0.1.2.3.4.6 0.1.2.3.4 0.1.2.3 0.1.2 0.1 0 -")
	unfit(t, enters(6)+"nop; enter 6; exit 6;"+exits(6)+"ret")
	// In whatever order.
	has(t, "enter 4; enter 0; enter 6; exit 6; exit 0; exit 4; ret", "- 4 4.0 4.0.6 4.0 4 -")
	// All of them over and over: it isn't how many were entered in all.
	has(t, strings.Repeat("enter 3; exit 3;", 99)+"ret", strings.Repeat("- 3 ", 99)+"-")
}

// The last local that there may be, beside one below it.
func TestGreatestLocal(t *testing.T) {
	m := write(t, "load 1; store 31; enter 31; enter 30; exit 30; exit 31; ret")
	m.Locals = api.MaxLocals
	if _, err := ask(t, m); err != api.ErrUnset {
		t.Errorf("P9.1: %d", err)
	}
	m = write(t, "load 1; store 31; load 1; store 30; enter 31; enter 30; exit 30; exit 31; ret")
	m.Locals = api.MaxLocals
	methodHas(t, m, "- - - - - 31 31.30 31 -")
}

func TestEnter(t *testing.T) {
	// Of one that is among Locks: the last one, the first one, one between.
	unfit(t, "enter 1; enter 1; exit 1; exit 1; ret")
	unfit(t, "enter 1; enter 1; exit 1; ret")
	unfit(t, "enter 1; enter 2; enter 1; exit 1; exit 2; exit 1; ret")
	unfit(t, "enter 0; enter 2; enter 0; exit 0; exit 2; exit 0; ret")
	unfit(t, "enter 1; enter 2; enter 3; enter 2; exit 2; exit 3; exit 2; exit 1; ret")
	unfit(t, enters(6)+"enter 0; null; throw")
	// Of one that was exited before.
	has(t, "enter 1; exit 1; enter 1; exit 1; ret", "- 1 - 1 -")
	has(t, "enter 1; enter 2; exit 2; enter 2; exit 2; exit 1; enter 2; enter 1; exit 1; exit 2; ret", "- 1 1.2 1 1.2 1 - 2 2.1 2 -")
	// Local 0 is none that is there from the beginning on.
	has(t, "nop; enter 0; exit 0; ret", "- - 0 -")
	has(t, "enter 1; enter 0; exit 0; exit 1; ret", "- 1 1.0 1 -")
	// One object in two locals: they are two.
	has(t, "load 1; store 2; enter 1; enter 2; exit 2; exit 1; ret", "- - - 1 1.2 1 -")
	unfit(t, "load 1; store 2; enter 1; exit 2; ret")
	// Null in it: that is the machine's business.
	has(t, "null; store 2; enter 2; exit 2; ret", "- - - 2 -")
}

func TestExit(t *testing.T) {
	// Of the last one.
	has(t, "enter 1; enter 2; exit 2; exit 1; ret", "- 1 1.2 1 -")
	// Of one that isn't the last.
	unfit(t, "enter 1; enter 2; exit 1; exit 2; ret")
	unfit(t, "enter 1; enter 2; enter 3; exit 2; exit 3; exit 1; ret")
	unfit(t, "enter 0; enter 2; enter 3; exit 0; exit 3; exit 2; ret")
	unfit(t, "enter 1; enter 0; exit 1; exit 0; ret")
	// Of one that isn't among them.
	unfit(t, "enter 1; exit 2; ret")
	unfit(t, "enter 1; exit 0; ret")
	unfit(t, "enter 1; exit 2; exit 1; ret")
	unfit(t, "enter 1; enter 2; exit 3; exit 2; exit 1; ret")
	// Where there are none.
	unfit(t, "exit 0; ret")
	unfit(t, "exit 1; ret")
	unfit(t, "exit 1; enter 1; ret")
	unfit(t, "enter 1; exit 1; exit 1; ret")
	unfit(t, "enter 0; exit 0; exit 0; ret")
	unfit(t, enters(6)+exits(6)+"exit 0; ret")
	unfit(t, "exit 1; null; throw")
}

func TestStore(t *testing.T) {
	// To one that is among Locks: alone, the first one, one between, the last one.
	unfit(t, "enter 1; null; store 1; exit 1; ret")
	unfit(t, "enter 0; null; store 0; exit 0; ret")
	for _, local := range []string{"1", "2", "3"} {
		unfit(t, "enter 1; enter 2; enter 3; null; store "+local+"; exit 3; exit 2; exit 1; ret")
	}
	// What it already has is no other matter.
	unfit(t, "enter 1; load 1; store 1; exit 1; ret")
	unfit(t, enters(6)+"null; store 5; null; throw")
	// To one that isn't.
	has(t, "null; store 1; ret", "- - -")
	has(t, "null; store 0; enter 1; exit 1; ret", "- - - 1 -")
	has(t, "enter 1; null; store 2; exit 1; ret", "- 1 1 1 -")
	has(t, "enter 1; null; store 0; exit 1; ret", "- 1 1 1 -")
	has(t, "enter 1; load 1; store 7; exit 1; ret", "- 1 1 1 -")
	has(t, "enter 1; pushint 7; store 7; exit 1; ret", "- 1 1 1 -")
	// To one that was exited.
	has(t, "enter 1; exit 1; null; store 1; ret", "- 1 - - -")
	has(t, "enter 1; enter 2; exit 2; null; store 2; exit 1; ret", "- 1 1.2 1 1 1 -")
	unfit(t, "enter 1; enter 2; exit 2; null; store 1; exit 1; ret")
	unfit(t, "enter 1; exit 1; enter 1; null; store 1; exit 1; ret")
	// Load is no Store.
	has(t, "enter 1; load 1; pop; exit 1; ret", "- 1 1 1 -")
}

func TestWaysOut(t *testing.T) {
	has(t, "ret", "-")
	unfit(t, "enter 1; ret")
	unfit(t, "enter 0; ret")
	unfit(t, "enter 1; enter 2; exit 2; ret")
	unfit(t, enters(6)+"ret")
	methodHas(t, giving(write(t, "pushint 7; retval")), "- -")
	methodHas(t, giving(write(t, "enter 1; pushint 7; exit 1; retval")), "- 1 1 -")
	methodUnfit(t, giving(write(t, "enter 1; pushint 7; retval")))
	methodUnfit(t, giving(write(t, "pushint 7; enter 0; retval")))
	methodUnfit(t, giving(write(t, enters(6)+"pushint 7; retval")))
	// A Throw has those that it has.
	has(t, "load 1; throw", "- -")
	has(t, "enter 1; load 1; throw", "- 1 1")
	has(t, enters(3)+"null; throw", "- 0 0.1 0.1.2 0.1.2")
	has(t, "enter 1; exit 1; null; throw", "- 1 - -")
	// One of several ways out.
	unfit(t, "enter 1; pushint 7; ifone x; exit 1; ret; x: ret")
	unfit(t, "enter 1; pushint 7; ifone x; ret; x: exit 1; ret")
	has(t, "enter 1; pushint 7; ifone x; exit 1; ret; x: exit 1; ret", "- 1 1 1 - 1 -")
	has(t, "enter 1; pushint 7; ifone x; exit 1; ret; x: null; throw", "- 1 1 1 - 1 1")
}

// All other instructions leave locks as they are.
func TestOtherInstructions(t *testing.T) {
	for _, text := range []string{
		"nop", "yield", "pushint 7; pop", "null; pop", "load 1; pop", "null; dup; pop; pop", "pushint 7; pushint 7; add; pop", "pushint 7; pushint 7; div; neg; out", "null; null; rsame; out",
		"new A; pop", "load 1; getfield A.n; pop", "load 1; pushint 7; putfield A.n", "pushint 7; newarr; arrlen; pop", "pushint 7; newarr; pushint 7; arrget; pop",
		"load 1; call A.run(); nop", "load 1; cast B; pop", "load 1; is B; pop", "load 1; wait", "load 2; wait", "load 1; notify", "load 2; notifyall", "load 1; spawn A.run(); join", "goto x; x: nop", "pushint 7; ifzero x; x: nop", "pushint 7; ifone x; x: nop",
	} {
		count := strings.Count(text, ";") + 1
		has(t, text+"; ret", strings.Repeat("- ", count)+"-")
		has(t, "enter 3; enter 1;"+text+"; exit 1; exit 3; ret", "- 3 "+strings.Repeat("3.1 ", count+1)+"3 -")
	}
}

// fork: two ways, by one code or another, that meet ahead of a third.
func fork(one, other, then string) string {
	return "pushint 7; ifone x;" + one + "; goto y; x:" + other + "; y:" + then
}

func TestWaysThatMeet(t *testing.T) {
	has(t, fork("enter 1", "enter 1", "exit 1; ret"), "- - - 1 - 1 -")
	has(t, fork("enter 1; enter 2", "enter 1; enter 2", "exit 2; exit 1; ret"), "- - - 1 1.2 - 1 1.2 1 -")
	has(t, fork("enter 1; exit 1", "nop", "ret"), "- - - 1 - - -")
	has(t, fork("enter 1; exit 1", "enter 2; exit 2", "ret"), "- - - 1 - - 2 -")
	has(t, "enter 1;"+fork("enter 2; exit 2", "nop", "exit 1; ret"), "- 1 1 1 1.2 1 1 1 -")
	has(t, "enter 1;"+fork("exit 1", "exit 1", "ret"), "- 1 1 1 - 1 -")
	// By others.
	for _, then := range []string{"exit 1; ret", "exit 2; ret", "ret", "null; throw"} {
		unfit(t, fork("enter 1", "enter 2", then))
		unfit(t, fork("enter 2", "enter 1", then))
	}
	unfit(t, fork("enter 3; enter 1", "enter 3; enter 2", "null; throw"))
	unfit(t, fork("enter 1; enter 3", "enter 2; enter 3", "null; throw"))
	// By the same in another order.
	for _, then := range []string{"exit 2; exit 1; ret", "exit 1; exit 2; ret", "null; throw"} {
		unfit(t, fork("enter 1; enter 2", "enter 2; enter 1", then))
	}
	unfit(t, fork("enter 1; enter 2; enter 3", "enter 3; enter 2; enter 1", "null; throw"))
	// By more, by less.
	for _, then := range []string{"ret", "exit 1; ret", "exit 2; exit 1; ret", "null; throw"} {
		unfit(t, fork("enter 1", "nop", then))
		unfit(t, fork("nop", "enter 1", then))
		unfit(t, fork("enter 1; enter 2", "enter 1", then))
		unfit(t, fork("enter 1", "enter 1; enter 2", then))
	}
	unfit(t, "enter 1;"+fork("exit 1", "nop", "ret"))
	unfit(t, "enter 1;"+fork("exit 1", "nop", "exit 1; ret"))
	// Local 0 is unlike none.
	unfit(t, fork("enter 0", "nop", "null; throw"))
	unfit(t, fork("enter 1; enter 0", "enter 1", "null; throw"))
	unfit(t, fork("enter 0; enter 1", "enter 1; enter 0", "null; throw"))
	// What was exited leaves nothing behind.
	has(t, fork("enter 5; enter 6; exit 6; exit 5", "enter 1; exit 1", "ret"), "- - - 5 5.6 5 - - 1 -")
	has(t, "enter 3;"+fork("enter 5; enter 6; exit 6; exit 5", "nop", "exit 3; ret"), "- 3 3 3 3.5 3.5.6 3.5 3 3 3 -")
	// Those that never come back needn't be like others.
	has(t, "pushint 7; ifone x; enter 1; null; throw; x: ret", "- - - 1 1 -")
}

func TestLoops(t *testing.T) {
	has(t, "x: nop; pushint 7; ifone x; ret", "- - - -")
	has(t, "x: enter 1; exit 1; pushint 7; ifone x; ret", "- 1 - - -")
	has(t, "enter 1; x: pushint 7; ifone x; exit 1; ret", "- 1 1 1 -")
	has(t, "enter 1; x: enter 2; exit 2; pushint 7; ifone x; exit 1; ret", "- 1 1.2 1 1 1 -")
	has(t, "enter 1; x: exit 1; enter 1; pushint 7; ifone x; exit 1; ret", "- 1 - 1 1 1 -")
	has(t, "x: goto x", "-")
	has(t, "enter 1; x: goto x", "- 1")
	has(t, "x: enter 1; exit 1; goto x", "- 1 -")
	// One more each time through; one less; another one.
	unfit(t, "x: enter 1; goto x")
	unfit(t, "x: enter 1; pushint 7; ifone x; exit 1; ret")
	unfit(t, "enter 1; x: exit 1; pushint 7; ifone x; ret")
	unfit(t, "enter 1; x: exit 1; enter 2; pushint 7; ifone x; exit 2; ret")
	unfit(t, "enter 1; enter 2; x: exit 2; pushint 7; ifone x; exit 1; ret")
	unfit(t, "enter 1; x: exit 1; goto x")
	unfit(t, "enter 1; enter 2; x: exit 2; exit 1; enter 2; enter 1; goto x")
	// To instruction 0, at which there are none.
	unfit(t, "x: nop; enter 1; goto x")
	unfit(t, "x: nop; enter 0; goto x")
	has(t, "x: nop; enter 0; exit 0; goto x", "- - 0 -")
	// One loop in another.
	has(t, "x: enter 1; y: enter 2; exit 2; pushint 7; ifone y; exit 1; pushint 7; ifone x; ret", "- 1 1.2 1 1 1 - - -")
	unfit(t, "x: enter 1; y: enter 2; exit 2; pushint 7; ifone x; exit 1; pushint 7; ifone y; ret")
}

func TestJumps(t *testing.T) {
	// To what stands ahead, over what is never run.
	has(t, "enter 1; goto x; exit 2; enter 1; x: exit 1; ret", "- 1 . . 1 -")
	unfit(t, "enter 1; goto x; exit 1; x: ret")
	// To what stands behind, which isn't reached otherwise, once more and so on.
	has(t, "goto b; a: exit 1; ret; b: enter 1; goto a", "- 1 - - 1")
	unfit(t, "goto b; a: ret; b: enter 1; goto a")
	has(t, "goto c; a: exit 1; goto d; b: enter 2; exit 2; goto a; c: enter 1; goto b; d: ret", "- 1 - 1 1.2 1 - 1 -")
	unfit(t, "goto c; a: exit 1; goto d; b: enter 2; nop; goto a; c: enter 1; goto b; d: ret")
	for _, op := range []string{"ifzero", "ifone"} {
		// Both ways.
		has(t, "enter 1; pushint 7;"+op+" x; exit 1; ret; x: enter 2; exit 2; exit 1; ret", "- 1 1 1 - 1 1.2 1 -")
		unfit(t, "enter 1; pushint 7;"+op+" x; exit 1; ret; x: enter 2; exit 1; exit 2; ret")
		unfit(t, "enter 1; pushint 7;"+op+" x; exit 2; ret; x: exit 1; ret")
		// To the one behind it.
		has(t, "enter 1; pushint 7;"+op+" x; x: exit 1; ret", "- 1 1 1 -")
		has(t, "goto b; a: exit 1; ret; b: enter 1; pushint 7;"+op+" a; exit 1; ret", "- 1 - - 1 1 1 -")
		unfit(t, "goto b; a: exit 1; ret; b: enter 1; pushint 7;"+op+" a; exit 1; pushint 7;"+op+" a; ret")
	}
}

func TestWhatIsNeverReached(t *testing.T) {
	// Whatever it would do to locks.
	has(t, "ret; enter 1; ret", "- . .")
	has(t, "ret; exit 1; exit 2; ret", "- . . .")
	has(t, "ret; enter 1; enter 1; exit 2; null; store 1; ret", "- . . . . . .")
	has(t, "goto end; "+enters(7)+"end: ret", "- . . . . . . . -")
	has(t, "enter 1; null; throw; exit 2; ret", "- 1 1 . .")
	has(t, "enter 1; x: goto x; ret", "- 1 .")
	methodHas(t, giving(write(t, "pushint 7; retval; enter 1; pushint 7; retval")), "- - . . .")
	// Jumps of it come nowhere.
	has(t, "enter 1; goto x; a: exit 1; goto x; x: exit 1; ret", "- 1 . . 1 -")
	has(t, "ret; x: enter 1; goto x", "- . .")
	has(t, "x: nop; ret; enter 1; goto x", "- - . .")
	// The longest code, none of which but its first is reached.
	has(t, "ret;"+strings.Repeat("exit 1;", 198)+"ret", "- "+strings.Repeat(". ", 199))
	// What is behind a jump that goes either way is reached.
	unfit(t, "pushint 7; ifone x; exit 1; x: ret")
}

func TestHandlerDepth(t *testing.T) {
	// Nought: none of them stays, however many there are.
	has(t, "x: nop; y: ret; z: pop; ret; catch x y z 0", "- - - -")
	has(t, "enter 1; x: nop; y: exit 1; ret; z: pop; ret; catch x y z 0", "- 1 1 - - -")
	has(t, enters(3)+"x: nop; y:"+exits(3)+"ret; z: pop; ret; catch x y z 0", "- 0 0.1 0.1.2 0.1.2 0.1 0 - - -")
	// The first ones stay.
	has(t, enters(3)+"x: nop; y:"+exits(3)+"ret; z: pop; exit 0; ret; catch x y z 1", "- 0 0.1 0.1.2 0.1.2 0.1 0 - 0 0 -")
	has(t, enters(3)+"x: nop; y:"+exits(3)+"ret; z: pop; exit 1; exit 0; ret; catch x y z 2", "- 0 0.1 0.1.2 0.1.2 0.1 0 - 0.1 0.1 0 -")
	has(t, "enter 3; enter 2; enter 1; x: nop; y: exit 1; exit 2; exit 3; ret; z: pop; exit 2; exit 3; ret; catch x y z 2", "- 3 3.2 3.2.1 3.2.1 3.2 3 - 3.2 3.2 3 -")
	unfit(t, "enter 3; enter 2; enter 1; x: nop; y: exit 1; exit 2; exit 3; ret; z: pop; exit 1; exit 2; ret; catch x y z 2")
	// Just as many as there are.
	has(t, enters(3)+"x: nop; y:"+exits(3)+"ret; z: pop;"+exits(3)+"ret; catch x y z 3", "- 0 0.1 0.1.2 0.1.2 0.1 0 - 0.1.2 0.1.2 0.1 0 -")
	has(t, enters(6)+"x: nop; y:"+exits(6)+"ret; z: pop;"+exits(6)+"ret; catch x y z 6", "- 0 0.1 0.1.2 0.1.2.3 0.1.2.3.4 0.1.2.3.4.5 0.1.2.3.4.5 0.1.2.3.4 0.1.2.3 0.1.2 0.1 0 - 0.1.2.3.4.5 0.1.2.3.4.5 0.1.2.3.4 0.1.2.3 0.1.2 0.1 0 -")
	// One more, and more.
	for _, depth := range []string{"4", "5", "6"} {
		unfit(t, enters(3)+"x: nop; y:"+exits(3)+"ret; z: throw; catch x y z "+depth)
	}
	unfit(t, "x: nop; y: ret; z: throw; catch x y z 1")
	unfit(t, "x: ret; z: throw; catch x z z 1")
	// What was exited isn't there any more.
	unfit(t, "enter 1; exit 1; x: nop; y: ret; z: throw; catch x y z 1")
	// One more at one instruction of the range alone: the first, the last, one between.
	unfit(t, "x: enter 1; nop; y: exit 1; ret; z: throw; catch x y z 1")
	has(t, "enter 1; x: nop; nop; y: exit 1; ret; z: throw; catch x y z 1", "- 1 1 1 - 1")
	unfit(t, "enter 1; x: nop; nop; exit 1; nop; y: ret; z: throw; catch x y z 1")
	has(t, "enter 1; x: nop; nop; exit 1; y: nop; ret; z: throw; catch x y z 1", "- 1 1 1 - - 1")
	unfit(t, "enter 1; x: nop; exit 1; nop; enter 1; nop; y: exit 1; ret; z: throw; catch x y z 1")
	unfit(t, "enter 1; x: nop; exit 1; enter 1; nop; y: exit 1; ret; z: throw; catch x y z 1")
	// Of one class alone: it is the same.
	has(t, "enter 1; x: nop; y: exit 1; ret; z: throw; catch x y z 1 B", "- 1 1 - 1")
	unfit(t, "x: nop; y: ret; z: throw; catch x y z 1 B")
	// Instructions that can't fault are among them, and one that leaves.
	unfit(t, "enter 1; x: exit 1; ret; y: throw; catch x y y 1")
}

func TestHandlerTarget(t *testing.T) {
	// With what comes there otherwise: from where there is one on the stack.
	has(t, "enter 1; x: load 1; y: pushint 7; ifone z; pop; exit 1; ret; z: pop; exit 1; ret; catch x y z 1", "- 1 1 1 1 1 - 1 1 -")
	unfit(t, "enter 1; x: load 1; y: pushint 7; ifone z; pop; exit 1; ret; z: pop; exit 1; ret; catch x y z 0")
	unfit(t, "enter 1; x: load 1; y: pushint 7; ifone z; pop; exit 1; ret; z: pop; ret; catch x y z 0")
	unfit(t, "enter 1; enter 2; x: load 1; y: exit 2; z: pop; exit 1; ret; catch x y z 2")
	has(t, "enter 1; enter 2; x: load 1; y: exit 2; z: pop; exit 1; ret; catch x y z 1", "- 1 1.2 1.2 1 1 -")
	unfit(t, "enter 1; enter 2; x: load 1; y: exit 2; z: pop; exit 1; ret; catch x y z 0")
	// From all of its range: as many, but of others.
	others := "pushint 7; ifone b; enter 1; goto c; b: enter 2; goto d; x: c: nop; goto e; d: nop; goto f; y: e: exit 1; ret; f: exit 2; ret; z: throw;"
	unfit(t, others+"catch x y z 1")
	unfit(t, others+"catch x d z 1; catch d y z 1")
	has(t, others+"catch x y z 0", "- - - 1 - 2 1 1 2 2 1 - 2 - -")
	has(t, others+"catch x d z 1", "- - - 1 - 2 1 1 2 2 1 - 2 - 1")
	has(t, "x: enter 1; nop; exit 1; enter 2; nop; exit 2; y: ret; z: throw; catch x y z 0", "- 1 1 - 2 2 - -")
	// Two handlers with one Target.
	has(t, "enter 1; x: nop; y: enter 2; w: nop; v: exit 2; exit 1; ret; z: throw; catch x y z 1; catch w v z 1", "- 1 1 1.2 1.2 1 - 1")
	unfit(t, "enter 1; x: nop; y: enter 2; w: nop; v: exit 2; exit 1; ret; z: throw; catch x y z 1; catch w v z 2")
	unfit(t, "enter 1; x: nop; y: exit 1; ret; z: throw; catch x y z 1; catch x y z 0")
	// Two handlers of one instruction: both, not the first alone.
	has(t, "enter 1; x: nop; y: exit 1; ret; z: throw; w: pop; ret; catch x y z 1; catch x y w 0", "- 1 1 - 1 - -")
	unfit(t, "enter 1; x: nop; y: exit 1; ret; z: throw; w: pop; ret; catch x y z 1; catch x y w 1")
	unfit(t, "enter 1; x: nop; y: exit 1; ret; z: throw; w: pop; ret; catch x y z 1; catch x y w 2")
	// Target stands behind its range, or ahead of it.
	has(t, "goto a; z: pop; exit 1; ret; a: enter 1; x: nop; y: exit 1; ret; catch x y z 1", "- 1 1 - - 1 1 -")
	unfit(t, "goto a; z: pop; ret; a: enter 1; x: nop; y: exit 1; ret; catch x y z 1")
	// What it does is looked at: in a handler too nothing stays locked.
	unfit(t, "enter 1; x: nop; y: exit 1; ret; z: pop; ret; catch x y z 1")
	unfit(t, "enter 1; x: nop; y: exit 1; ret; z: pop; exit 1; ret; catch x y z 0")
	unfit(t, "enter 1; x: nop; y: exit 1; ret; z: store 1; exit 1; ret; catch x y z 1")
	has(t, "enter 1; x: nop; y: exit 1; ret; z: store 1; ret; catch x y z 0", "- 1 1 - - -")
	has(t, "enter 1; x: nop; y: exit 1; ret; z: store 2; enter 2; exit 2; exit 1; ret; catch x y z 1", "- 1 1 - 1 1 1.2 1 -")
	// A handler's own instructions in the range of another.
	has(t, "enter 1; x: nop; y: exit 1; ret; z: pop; w: exit 1; ret; v: throw; catch x y z 1; catch z w v 1", "- 1 1 - 1 1 - 1")
	unfit(t, "enter 1; x: nop; y: exit 1; ret; z: pop; w: exit 1; ret; v: throw; catch x y z 0; catch z w v 1")
}

func TestHandlerRange(t *testing.T) {
	// An Enter alone: those ahead of it.
	has(t, "x: enter 1; y: exit 1; ret; z: pop; ret; catch x y z 0", "- 1 - - -")
	unfit(t, "x: enter 1; y: exit 1; ret; z: throw; catch x y z 1")
	has(t, "enter 1; x: enter 2; y: exit 2; exit 1; ret; z: pop; exit 1; ret; catch x y z 1", "- 1 1.2 1 - 1 1 -")
	unfit(t, "enter 1; x: enter 2; y: exit 2; exit 1; ret; z: throw; catch x y z 2")
	// An Exit alone: those ahead of it.
	has(t, "enter 1; x: exit 1; y: ret; z: pop; exit 1; ret; catch x y z 1", "- 1 - 1 1 -")
	has(t, "enter 1; x: exit 1; y: ret; z: pop; ret; catch x y z 0", "- 1 - - -")
	has(t, "enter 1; enter 2; x: exit 2; y: exit 1; ret; z: throw; catch x y z 2", "- 1 1.2 1 - 1.2")
	// From is in it, To isn't.
	has(t, "enter 1; x: nop; y: exit 1; ret; z: throw; catch x y z 1", "- 1 1 - 1")
	unfit(t, "enter 1; nop; exit 1; x: nop; y: ret; z: throw; catch x y z 1")
	// All of the code, itself too.
	has(t, "x: enter 1; nop; exit 1; ret; z: pop; ret; y: ret; catch x y z 0", "- 1 1 - - - .")
	has(t, "x: enter 1; nop; exit 1; ret; z: pop; ret; y: ; catch x y z 0", "- 1 1 - - -")
	unfit(t, "x: enter 1; nop; exit 1; ret; z: pop; ret; y: ; catch x y z 1")
	// The last instruction alone.
	has(t, "goto a; z: pop; exit 1; ret; a: enter 1; null; x: throw; y: ; catch x y z 1", "- 1 1 - - 1 1")
	unfit(t, "goto a; z: pop; exit 1; ret; a: enter 1; null; x: throw; y: ; catch x y z 0")
}

func TestHandlerInItsOwnRange(t *testing.T) {
	has(t, "enter 1; x: nop; goto a; z: pop; y: nop; a: exit 1; ret; catch x y z 1", "- 1 1 1 1 1 -")
	has(t, "enter 1; enter 2; x: nop; y: exit 2; exit 1; ret; z: nop; w: pop; exit 1; ret; catch x y z 1; catch z w z 1", "- 1 1.2 1.2 1 - 1 1 1 -")
	// It has less than that at its own Target, and none the next time.
	unfit(t, "enter 1; enter 2; x: nop; y: exit 2; exit 1; ret; z: nop; w: pop; exit 1; ret; catch x y z 1; catch z w z 2")
	unfit(t, "enter 1; x: nop; y: exit 1; ret; z: nop; w: pop; exit 1; ret; catch x y z 1; catch z w z 0")
	// What it enters isn't there when it comes to itself; Depth says so.
	has(t, "x: nop; goto end; z: pop; enter 1; nop; exit 1; y: ret; end: ret; catch x y z 0", "- - - - 1 1 - -")
	unfit(t, "x: nop; goto end; z: pop; enter 1; nop; exit 1; y: ret; end: ret; catch x y z 1")
}

func TestHandlerOfWhatIsNeverReached(t *testing.T) {
	// All of its range: it comes nowhere, whatever its Depth.
	has(t, "ret; x: nop; y: ret; z: throw; catch x y z 0", "- . . .")
	has(t, "ret; x: nop; y: ret; z: throw; catch x y z 6", "- . . .")
	has(t, "enter 1; goto end; x: nop; y: nop; end: exit 1; ret; z: exit 5; ret; catch x y z 3", "- 1 . . 1 - . .")
	// Some of it: those that aren't reached have no locks, but don't count.
	has(t, "enter 1; x: goto a; nop; exit 1; a: nop; y: exit 1; ret; z: throw; catch x y z 1", "- 1 . . 1 1 - 1")
	has(t, "enter 1; goto a; x: nop; exit 1; a: nop; y: exit 1; ret; z: throw; catch x y z 1", "- 1 . . 1 1 - 1")
	has(t, "enter 1; x: goto a; nop; enter 2; y: nop; a: exit 1; ret; z: throw; catch x y z 1", "- 1 . . . 1 - 1")
	unfit(t, "enter 1; x: goto a; nop; enter 2; y: nop; a: exit 1; ret; z: throw; catch x y z 2")
	// A Target that is reached by its handler alone is reached, and what comes behind it.
	has(t, "enter 1; x: nop; y: exit 1; ret; z: pop; w: exit 1; ret; v: pop; exit 1; ret; catch x y z 1; catch z w v 1", "- 1 1 - 1 1 - 1 1 -")
	unfit(t, "enter 1; x: nop; y: exit 1; ret; z: pop; w: exit 1; ret; v: pop; ret; catch x y z 1; catch z w v 1")
}

// As many handlers as there may be, each with another Depth or Target; the last of them doesn't fit.
func TestMostHandlers(t *testing.T) {
	text := enters(6) + "x: nop; y:" + exits(6) + "ret; a: pop; ret; b: throw; c: throw;"
	for range 5 {
		text += "catch x y a 0; catch x y b 6 B; catch x y c 3 Fault;"
	}
	want := "- 0 0.1 0.1.2 0.1.2.3 0.1.2.3.4 0.1.2.3.4.5 0.1.2.3.4.5 0.1.2.3.4 0.1.2.3 0.1.2 0.1 0 - - - 0.1.2.3.4.5 0.1.2"
	has(t, text+"catch x y a 0", want)
	unfit(t, text+"catch x y a 1")
	unfit(t, text+"catch x y b 5")
	unfit(t, text+"catch x y c 4")
}

// The longest code, the last but one of which fits or doesn't.
func TestLongestMethod(t *testing.T) {
	text, want := "", ""
	for range 24 {
		text += "enter 1; enter 2; pushint 7; pop; nop; yield; exit 2; exit 1;"
		want += "- 1 1.2 1.2 1.2 1.2 1.2 1 "
	}
	has(t, text+"nop; nop; nop; nop; nop; nop; nop; ret", want+"- - - - - - - -")
	unfit(t, text+"nop; nop; nop; nop; nop; nop; exit 1; ret")
	// All of them by jumps back: the last one of the code comes first.
	text, want = "goto a99; a0: exit 1; ret;", "- 1 -"
	for at := range 98 {
		text += "a" + strconv.Itoa(at+1) + ": goto a" + strconv.Itoa(at) + ";"
		want += " 1"
	}
	has(t, text+"a99: enter 1; goto a98", want+" - 1")
	unfit(t, text+"a99: enter 2; goto a98")
}
