package interp

import (
	"fmt"
	"strings"
	"testing"

	"loom/api"
)

// locking: an L is locked, waited for and notified by what its methods are for; Main has begun one thread for each of some words, and stands at the end of that, its L in local 1, at 5.
const locking = `
L: n int, o L
L.enters() void: enter 0; yield; exit 0; ret
L.waits() void: enter 0; load 0; wait; exit 0; ret
L.twice() void: load 0; store 1; enter 0; enter 1; load 0; wait; exit 1; exit 0; ret
L.four() void: load 0; store 1; load 0; store 2; load 0; store 3; enter 0; enter 1; enter 2; enter 3; exit 3; exit 2; exit 1; exit 0; ret
L.notifies() void: enter 0; load 0; notify; exit 0; ret
L.all() void: enter 0; load 0; notifyall; exit 0; ret
L.bold() void: load 0; wait; ret
L.loud() void: load 0; notify; ret
L.louder() void: load 0; notifyall; ret
L.joins() void: load 0; getfield L.n; join; pushint 7; out; ret
L.rets() void: ret
`

// withThreads: Main has begun a thread for each of the methods of L, 2 on; and then does something more.
func withThreads(t *testing.T, methods, then string) *Machine {
	t.Helper()
	text := locking + "Main.main() void: new L; store 1; "
	list := strings.Fields(methods)
	for _, method := range list {
		text += "load 1; spawn L." + method + "; pop; "
	}
	m := roomy(t, text+then+"ret")
	step(t, m, fmt.Sprintf("1*%d", 2+3*len(list)))
	return m
}

// at: where the last frames of threads stand, apart by blanks; a dash of those that have ended.
func at(m *Machine) string {
	var words []string
	for _, x := range m.Threads() {
		if len(x.Frames) == 0 {
			words = append(words, "-")
			continue
		}
		words = append(words, fmt.Sprint(x.Frames[len(x.Frames)-1].Pc))
	}
	return strings.Join(words, " ")
}

// stands: the states, where all stand, the lock of the L.
func stands(t *testing.T, promise string, m *Machine, want string) {
	t.Helper()
	is(t, promise, states(m)+"; "+at(m)+"; "+lockWord(m.Lock(5)), want)
}

func TestEnterAndExit(t *testing.T) {
	m := withThreads(t, "enters enters enters", "")
	step(t, m, "2")
	stands(t, "P15.3: it is had at once", m, "RRRR; 11 1 0 0; 2 1 thin [] []")
	step(t, m, "4 3")
	stands(t, "P15.3: it isn't had", m, "RRBB; 11 1 0 0; 2 1 fat [4 3] []")
	is(t, "P15.3: what isn't had isn't locked", lastFrame(m, 3), "L.enters 0 [@5] [] []")
	step(t, m, "2")
	stands(t, "P15.3: nobody goes on ahead of the exit", m, "RRBB; 11 2 0 0; 2 1 fat [4 3] []")
	step(t, m, "2")
	stands(t, "P15.3: who has stood longest goes on behind its Enter", m, "RRBR; 11 3 0 1; 4 1 fat [3] []")
	is(t, "P15.3: what is locked", lastFrame(m, 4)+lastFrame(m, 2), "L.enters 1 [@5] [] [0]L.enters 3 [@5] [] []")
	step(t, m, "4 4")
	stands(t, "P15.3: and then the next one", m, "RRRR; 11 3 1 3; 3 1 fat [] []")
	step(t, m, "3 3")
	stands(t, "P15.3: nobody is left", m, "RRRR; 11 3 3 3; 0 0 fat [] []")
	is(t, "P15.3: all end", events(finish(t, m)), "1 end; 2 end; 3 end; 4 end")
}

// By one thread more than once, in one frame and in frames that call; thin until it is taken four times.
func TestEnterAgain(t *testing.T) {
	m := withThreads(t, "four enters", "")
	step(t, m, "2*7")
	stands(t, "P15.3: once", m, "RRR; 8 7 0; 2 1 thin [] []")
	step(t, m, "2*2")
	stands(t, "P15.3: three times", m, "RRR; 8 9 0; 2 3 thin [] []")
	is(t, "P15.6: each local by itself", lastFrame(m, 2), "L.four 9 [@5 @5 @5 @5] [] [0 1 2]")
	step(t, m, "2 3")
	stands(t, "P15.3: four times", m, "RRB; 8 10 0; 2 4 fat [3] []")
	step(t, m, "2*3")
	stands(t, "P15.3: it is still taken", m, "RRB; 8 13 0; 2 1 fat [3] []")
	is(t, "P15.6: the last one first", lastFrame(m, 2), "L.four 13 [@5 @5 @5 @5] [] [0]")
	step(t, m, "2")
	stands(t, "P15.3: it is handed over", m, "RRR; 8 14 1; 3 1 fat [] []")
	m = roomy(t, "Main.main() void: enter 0; load 0; call Main.in; exit 0; ret\nMain.in() void: enter 0; load 0; notify; exit 0; ret")
	step(t, m, "1*4")
	is(t, "P15.3: by two frames", lockWord(m.Lock(1)), "1 2 thin [] []")
	is(t, "P15.6: each one's own", threadWords(m.Threads()[0]), "1 ready; Main.main 2 [@1] [] [0]; Main.in 1 [@1] [] [0]")
	is(t, "P15.3", events(finish(t, m)), "1 end")
}

func TestWaitAndNotify(t *testing.T) {
	m := withThreads(t, "waits waits notifies notifies", "")
	step(t, m, "2*2")
	is(t, "P15.3: ahead of it", lastFrame(m, 2), "L.waits 2 [@5] [@5] [0]")
	step(t, m, "2")
	stands(t, "P15.3: it waits, and the lock is free", m, "RWRRR; 14 2 0 0 0; 0 0 fat [] [2]")
	is(t, "P15.3: what is waited for is taken", lastFrame(m, 2), "L.waits 2 [@5] [] [0]")
	step(t, m, "3*2 4 3")
	stands(t, "P15.3: the lock is handed over by a Wait", m, "RWWRR; 14 2 2 1 0; 4 1 fat [] [2 3]")
	step(t, m, "4 4")
	stands(t, "P15.3: the first one that waits is Blocked", m, "RBWRR; 14 2 2 3 0; 4 1 fat [2] [3]")
	step(t, m, "5 4")
	stands(t, "P15.3: it goes on behind its Wait", m, "RRWRB; 14 3 2 4 0; 2 1 fat [5] [3]")
	is(t, "P15.3: it has its lock again", lastFrame(m, 2), "L.waits 3 [@5] [] [0]")
	step(t, m, "2")
	stands(t, "P15.3: the next one", m, "RRWRR; 14 4 2 4 1; 5 1 fat [] [3]")
	step(t, m, "5*3")
	stands(t, "P15.3: the last one", m, "RRRRR; 14 4 3 4 4; 3 1 fat [] []")
	is(t, "P15.3", events(finish(t, m)), "1 end; 2 end; 3 end; 4 end; 5 end")
}

func TestNotifyAll(t *testing.T) {
	m := withThreads(t, "waits waits waits all enters", "")
	step(t, m, "4*3 2*3 3*3 5*2 6")
	stands(t, "P15.3: three wait", m, "RWWWRB; 17 2 2 2 2 0; 5 1 fat [6] [4 2 3]")
	step(t, m, "5")
	stands(t, "P15.3: each of them is Blocked, in order", m, "RBBBRB; 17 2 2 2 3 0; 5 1 fat [6 4 2 3] []")
	is(t, "P15.3: the object is taken", lastFrame(m, 5), "L.all 3 [@5] [] [0]")
	step(t, m, "5 6*2")
	stands(t, "P15.3: one after the other", m, "RBBRRR; 17 2 2 3 4 3; 4 1 fat [2 3] []")
	// Of none that wait nothing comes.
	m = withThreads(t, "all notifies", "")
	step(t, m, "2*3")
	stands(t, "P15.3: NotifyAll of none", m, "RRR; 8 3 0; 2 1 thin [] []")
	step(t, m, "2*2 3*3")
	stands(t, "P15.3: Notify of none", m, "RER; 8 - 3; 3 1 thin [] []")
}

// A lock that was taken twice is left at once, and is taken twice again.
func TestWaitWithACountAboveOne(t *testing.T) {
	m := withThreads(t, "twice notifies", "")
	step(t, m, "2*5")
	stands(t, "P15.3: taken twice", m, "RRR; 8 5 0; 2 2 thin [] []")
	step(t, m, "2")
	stands(t, "P15.3: it is left", m, "RWR; 8 5 0; 0 0 fat [] [2]")
	is(t, "P15.6: its locals", lastFrame(m, 2), "L.twice 5 [@5 @5] [] [0 1]")
	step(t, m, "3*4")
	stands(t, "P15.3: it is taken twice again", m, "RRR; 8 6 4; 2 2 fat [] []")
	step(t, m, "2")
	stands(t, "P15.3: once less", m, "RRR; 8 7 4; 2 1 fat [] []")
	step(t, m, "2")
	stands(t, "P15.3: free", m, "RRR; 8 8 4; 0 0 fat [] []")
}

// By one who isn't the owner: nothing is done to the lock.
func TestWaitAndNotifyOfOthers(t *testing.T) {
	m := withThreads(t, "enters bold loud louder waits", "")
	step(t, m, "6*3 2")
	for id, promise := range map[int]string{3: "Wait", 4: "Notify", 5: "NotifyAll"} {
		step(t, m, fmt.Sprintf("%d*2", id))
		list := m.Events()
		is(t, "P15.3: "+promise, eventWord(list[len(list)-1]), fmt.Sprintf("%d uncaught Fault %d", id, api.FState))
		is(t, "P15.3: "+promise+" changes nothing", lockWord(m.Lock(5)), "2 1 fat [] [6]")
	}
	is(t, "P15.3: states", states(m), "RREEEW")
}

// Another object's lock is no help.
func TestTheLockOfAnotherObject(t *testing.T) {
	puts(t, "P15.3", "new A; store 1; enter 1; load 0; notify; exit 1; ret", "1 uncaught Fault 6")
	puts(t, "P15.3", "new A; store 1; enter 1; load 1; cast A; notify; exit 1; ret", "1 end")
	puts(t, "P15.3", "enter 0; new A; wait; exit 0; ret", "1 uncaught Fault 6")
}

// Who is handed a lock over by a Wait, while others stand in line for another one.
func TestLocksOfTwoObjects(t *testing.T) {
	m := roomy(t, locking+"Main.main() void: new L; store 1; new L; store 2; load 1; spawn L.enters; pop; load 2; spawn L.enters; pop; enter 1; enter 2; yield; exit 2; exit 1; ret")
	step(t, m, "1*12 2 3")
	is(t, "P15.3: both", states(m)+lockWord(m.Lock(5))+lockWord(m.Lock(9)), "RBB1 1 fat [2] []1 1 fat [3] []")
	step(t, m, "1*2")
	is(t, "P15.3: one", states(m)+lockWord(m.Lock(5))+lockWord(m.Lock(9)), "RBR1 1 fat [2] []3 1 fat [] []")
	step(t, m, "1")
	is(t, "P15.3: the other one", states(m)+lockWord(m.Lock(5))+lockWord(m.Lock(9)), "RRR2 1 fat [] []3 1 fat [] []")
}

func TestSpawn(t *testing.T) {
	m := roomy(t, locking+"Main.main() void: pushint 9; new L; spawn L.rets; new L; store 1; load 1; spawn L.four; pop; pop; pop; ret")
	step(t, m, "1*2")
	is(t, "P15.3: ahead of it", shown(m, 1), "1 ready; Main.main 2 [@1 -] [i9 @5] []")
	step(t, m, "1")
	is(t, "P15.3: its number", shown(m, 1), "1 ready; Main.main 3 [@1 -] [i9 i2] []")
	is(t, "P15.3: one frame", shown(m, 2), "2 ready; L.rets 0 [@5] [] []")
	is(t, "P15.3: it is ready", m.Ready(), []int{1, 2})
	step(t, m, "1*4")
	is(t, "P15.3: the next number", shown(m, 1), "1 ready; Main.main 7 [@1 @9] [i9 i2 i3] []")
	is(t, "P15.3: one frame", shown(m, 3), "3 ready; L.four 0 [@9 - - -] [] []")
	// Numbers aren't given twice.
	puts(t, "P15.3", "new A; spawn A.run; join; new A; spawn A.run; out; ret", "2 end; 1 out 3; 1 end; 3 end")
}

func TestMaxThreads(t *testing.T) {
	m := withThreads(t, strings.Repeat("rets ", api.MaxThreads-1), "load 1; spawn L.rets; pop; ")
	is(t, "P15.3: as many as may be", fmt.Sprint(len(m.Threads()), m.Over()), "12 false")
	step(t, m, "1")
	at := lastFrame(m, 1)
	is(t, "P15.3: ahead of one more", at, "Main.main 36 [@1 @5] [@5] []")
	step(t, m, "1")
	is(t, "P15.3: one more", events(m)+fmt.Sprint(m.Over(), len(m.Threads()), m.Step(2)), "1 limit"+fmt.Sprint(true, 12, api.ErrThread))
	is(t, "P15.3: nothing else is done", lastFrame(m, 1), at)
	is(t, "P15.3: states", states(m), strings.Repeat("R", 12))
	// Those that have ended count.
	m = finish(t, roomy(t, "Main.main() void: x: new A; spawn A.run; join; goto x"))
	is(t, "P15.3: with those that have ended", states(m)+lastEvents(m, 2), "REEEEEEEEEEE12: 12 end; 1 limit")
	// The event is that of who begins one more.
	m = finish(t, roomy(t, "D\nD.begins() void: x: new A; spawn A.run; pop; goto x\nMain.main() void: new D; spawn D.begins; join; ret"))
	is(t, "P15.3: whose limit it is", states(m)+events(m), "JRRRRRRRRRRR2 limit")
	// Null comes first.
	m = withThreads(t, strings.Repeat("rets ", api.MaxThreads-1), "null; spawn L.rets; pop; ")
	step(t, m, "1*2")
	is(t, "P15.3: null", events(m)+fmt.Sprint(m.Over()), "1 uncaught Fault 1false")
}

func TestJoin(t *testing.T) {
	m := withThreads(t, "rets rets", "pushint 9; pushint 2; join; pushint 3; join; pop; ")
	step(t, m, "1*2 1")
	is(t, "P15.3: one that hasn't ended", states(m)+lastFrame(m, 1), "JRRMain.main 10 [@1 @5] [i9] []")
	step(t, m, "3")
	is(t, "P15.3: another one's end is nothing to it", states(m)+lastFrame(m, 1), "JREMain.main 10 [@1 @5] [i9] []")
	step(t, m, "2")
	is(t, "P15.3: its end", states(m)+lastFrame(m, 1), "REEMain.main 11 [@1 @5] [i9] []")
	step(t, m, "1*2")
	is(t, "P15.3: one that has ended", states(m)+lastFrame(m, 1), "REEMain.main 13 [@1 @5] [i9] []")
	is(t, "P15.3", events(finish(t, m)), "3 end; 2 end; 1 end")
	// Several join one; one that is thrown out ends, too.
	m = withThreads(t, "joins joins loud", "load 1; pushint 4; putfield L.n; pushint 4; join; ")
	step(t, m, "1*3 3*3 2*3 1*2")
	is(t, "P15.3: all join it", states(m)+" "+at(m), "JJJR 15 2 2 0")
	step(t, m, "4*2")
	is(t, "P15.3: all go on", states(m)+" "+at(m), "RRRE 16 3 3 -")
	is(t, "P15.3", events(finish(t, m)), "4 uncaught Fault 6; 1 end; 2 out 7; 2 end; 3 out 7; 3 end")
	// Itself; one another.
	puts(t, "P15.3", "pushint 1; join; ret", "0 deadlock")
	m = withThreads(t, "joins rets", "load 1; pushint 2; putfield L.n; ")
	step(t, m, "1*3 2*3")
	is(t, "P15.3: itself", states(m), "RJR")
	is(t, "P15.3", events(finish(t, m)), "1 end; 3 end; 0 deadlock")
}

// A thread that ends hands nothing over: it has exited all that it entered.
func TestTheEndOfAThread(t *testing.T) {
	m := withThreads(t, "enters enters", "")
	step(t, m, "2*3 3")
	is(t, "P15.3: ahead of it", lockWord(m.Lock(5)), "3 1 thin [] []")
	step(t, m, "2")
	is(t, "P15.3: behind it", states(m)+lockWord(m.Lock(5))+shown(m, 2), "RER3 1 thin [] []2 ended")
}
