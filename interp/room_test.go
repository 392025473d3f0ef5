package interp

import (
	"fmt"
	"math"
	"strings"
	"testing"

	"loom/api"
)

// small: J without fields, of which garbage is made; D has an integer, a D, an array and a complex number.
const small = "\nJ\nD: x int, y D, z arr, c cplx\nD.churn() void: x: new J; pop; goto x\nD.id() D: load 0; retval\n"

// kept: all objects but those of J, with their addresses.
func kept(m *Machine) string {
	var words []string
	for _, at := range m.Heap().All() {
		if class := m.Class(at); class != "J" {
			words = append(words, fmt.Sprintf("%s%d", class, at))
		}
	}
	return strings.Join(words, " ")
}

// churn: a thread goes on until there was one more collection.
func churn(t testing.TB, m *Machine, id int) {
	t.Helper()
	count := m.Collections()
	for range 5000 {
		if m.Step(id) != api.OK || m.Over() {
			t.Fatalf("P15.2: it doesn't go on: %v, %s", m.Threads(), events(m))
		}
		if m.Collections() > count {
			is(t, "P15.2: one at a time", m.Collections(), count+1)
			return
		}
	}
	t.Fatalf("P15.2: no collection: %v", m.Threads())
}

func TestNewObjects(t *testing.T) {
	m := roomy(t, "Main.main() void: new A; store 1; new B; store 2; new Object; store 3; new G; store 4; new Fault; store 5; pushint 0; newarr; store 6; pushint 100; newarr; store 7; pushint 3; newarr; store 8; x: ret")
	step(t, m, "1*19")
	for _, c := range []struct{ at, number, words int }{{1, 7, 2}, {5, 2, 9}, {16, 3, 10}, {28, 0, 0}, {30, 6, 2}, {34, 1, 1}, {37, 1000, 0}, {39, 1000, 100}, {141, 1000, 3}} {
		number, _ := m.Heap().Class(c.at)
		words, err := m.Heap().Words(c.at)
		is(t, fmt.Sprintf("P15.2: what is at %d", c.at), fmt.Sprint(number, words, err), fmt.Sprint(c.number, c.words, api.OK))
		for word := range words {
			if v, _ := m.Heap().Get(c.at, word); v != 0 {
				t.Errorf("P15.2: word %d at %d is %d", word, c.at, v)
			}
		}
	}
	is(t, "P15.2: all of them", len(m.Heap().All()), 9)
	is(t, "P15.2: what is told of them", lastFrame(m, 1), "Main.main 19 [@1 @5 @16 @28 @30 @34 []37 []39 []141] [] []")
	// What nobody has set yet.
	puts(t, "P15.2", "new A; store 1; load 1; getfield A.n; out; load 1; getfield A.c; outc; load 1; getfield A.o; null; rsame; out; load 1; getfield A.l; null; rsame; out; load 1; getfield A.v; out; load 1; getfield A.w; null; rsame; out; load 1; getfield A.d; outc; ret",
		"1 out 0; 1 outc (0+0i); 1 out 1; 1 out 1; 1 out 0; 1 out 1; 1 outc (0+0i); 1 end")
	puts(t, "P15.2", "pushint 100; newarr; store 1; load 1; pushint 99; arrget; out; load 1; arrlen; out; ret", "1 out 0; 1 out 100; 1 end")
}

// Words that lay in what was released are 0 in what lies there next.
func TestNewObjectsAreAllZero(t *testing.T) {
	m := begun(t, 4+11, false, "Main.main() void: new A; store 1; load 1; pushint -1; putfield A.n; load 1; load 1; putfield A.o; load 1; pushcplx NaN-1i; putfield A.c; load 1; pushint -1; putfield A.v; null; store 1; new A; store 1; load 1; getfield A.n; out; load 1; getfield A.v; out; load 1; getfield A.c; outc; load 1; getfield A.o; null; rsame; out; pushint 9; null; store 1; newarr; pushint 2; arrget; out; ret")
	is(t, "P15.2", events(finish(t, m)), "1 out 0; 1 out 0; 1 outc (0+0i); 1 out 1; 1 out 0; 1 end")
	is(t, "P15.2: Collections", m.Collections(), 2)
}

func TestHowValuesLie(t *testing.T) {
	m := roomy(t, "Main.main() void: new B; store 1; load 1; pushint -2; putfield A.n; load 1; load 0; cast Object; pop; load 1; putfield A.o; load 1; pushint 9223372036854775807; putfield A.v; load 1; pushcplx 1-0i; pushcplx -0.5+2i; pop; putfield A.c; load 1; pushint 2; newarr; putfield A.l; load 1; pushcplx Inf+1e-320i; putfield A.d; load 1; pushint 5; putfield B.m; load 1; getfield A.l; pushint 1; pushint -7; arrput; ret")
	for !m.Over() {
		step(t, m, "1")
	}
	object := []uint64{^uint64(1), 5, 1<<63 - 1, math.Float64bits(1), math.Float64bits(math.Copysign(0, -1)), 17, 0, math.Float64bits(math.Inf(1)), math.Float64bits(1e-320), 5}
	for word, want := range object {
		got, err := m.Heap().Get(5, word)
		is(t, fmt.Sprintf("P15.2: word %d", word), fmt.Sprint(got, err), fmt.Sprint(want, api.OK))
	}
	for word, want := range []uint64{0, ^uint64(6)} {
		got, err := m.Heap().Get(17, word)
		is(t, fmt.Sprintf("P15.2: element %d", word), fmt.Sprint(got, err), fmt.Sprint(want, api.OK))
	}
}

func TestACollectionMakesRoom(t *testing.T) {
	// Main at 1, and room for three J.
	m := begun(t, 4+6, false, small+"Main.main() void: x: new J; pop; goto x")
	step(t, m, "1*7")
	is(t, "P15.2: all is full", fmt.Sprint(m.Heap().All(), m.Heap().Free(), m.Collections()), "[1 5 7 9] [] 0")
	step(t, m, "1*3")
	is(t, "P15.2: what nobody has any more is gone", fmt.Sprint(m.Heap().All(), m.Heap().Free(), m.Collections()), "[1 5] [{7 4}] 1")
	step(t, m, "1*6")
	is(t, "P15.2: nothing is gone while there is room", fmt.Sprint(m.Heap().All(), m.Collections()), "[1 5 7 9] 1")
	step(t, m, "1*3")
	is(t, "P15.2: again", fmt.Sprint(m.Heap().All(), m.Collections()), "[1 5] 2")
	// What stays doesn't move, and what comes lies in the first gap that is great enough.
	m = begun(t, 4+11, false, small+"Main.main() void: new J; new J; store 1; pop; pushint 1; newarr; pop; new J; store 2; new J; pushint 1; newarr; ret")
	step(t, m, "1*10")
	is(t, "P15.2: all is full", fmt.Sprint(m.Heap().All(), m.Heap().Free(), m.Collections()), "[1 5 7 9 12 14] [] 0")
	step(t, m, "1*2")
	is(t, "P15.2: gaps", fmt.Sprint(m.Heap().All(), lastFrame(m, 1), m.Collections()), "[1 7 9 12 14]Main.main 12 [@1 @7 @12] [@14 []9] []1")
}

func TestACollectionThatMakesNone(t *testing.T) {
	for _, c := range []struct {
		words int
		main  string
		at    string // where it stands, with all that it had
	}{
		{4 + 4, "new J; new J; new J; ret", "Main.main 2 [@1] [@5 @7] []"},
		{4 + 4, "new J; pushint 1; newarr; ret", "Main.main 2 [@1] [@5 i1] []"},
		// There are words enough, but not in one block.
		{4 + 8, "new J; store 1; new J; store 2; new J; store 3; new J; store 4; null; store 1; null; store 3; pushint 1; newarr; ret", "Main.main 13 [@1 null @7 null @11] [i1] []"},
		// Faults want room, too; locks stay, handlers have nothing to do.
		{4 + 2, "new J; store 1; enter 0; enter 1; x: null; throw; y: pop; exit 1; exit 0; ret; catch x y y 2", "Main.main 5 [@1 @5] [null] [0 1]"},
		{4 + 2, "pushint 1; pushint 0; div; out; ret", "Main.main 2 [@1] [i1 i0] []"},
	} {
		m := begun(t, c.words, false, small+"Main.main() void: "+c.main)
		finish(t, m)
		is(t, "P15.2: "+c.main, events(m), "1 memory")
		is(t, "P15.2: nothing else is done", lastFrame(m, 1), c.at)
		is(t, "P15.2: over", fmt.Sprint(m.Over(), m.Ready(), states(m), m.Step(1)), fmt.Sprint(true, []int{1}, "R", api.ErrThread))
		is(t, "P15.2: Collections", m.Collections(), 1)
	}
	// What it was for counts, too: it makes room for some, but not for enough.
	m := finish(t, begun(t, 4+4, false, small+"Main.main() void: new J; pop; pushint 3; newarr; ret"))
	is(t, "P15.2: not room enough", events(m)+fmt.Sprint(m.Heap().All(), m.Collections()), "1 memory[1] 1")
}

// Each thread's event is its own.
func TestWhoIsOutOfMemory(t *testing.T) {
	m := begun(t, 4+7, false, small+"Main.main() void: new D; spawn D.fill; pop; yield; ret\nD.fill() void: new J; ret")
	step(t, m, "1*3 2")
	is(t, "P15.2", events(m)+fmt.Sprint(m.Over(), m.Ready()), "2 memorytrue [1 2]")
}

func TestRoots(t *testing.T) {
	const loop = "x: new J; pop; goto x"
	for _, c := range []struct{ promise, text, want string }{
		{"a local", "Main.main() void: new D; store 1; new D; pop; " + loop, "Main1 D5"},
		{"the receiver", "Main.main() void: new D; call D.churn; ret", "Main1 D5"},
		{"the stack", "Main.main() void: new D; new D; pop; new D; " + loop, "Main1 D5 D19"},
		{"both of it", "Main.main() void: new D; dup; store 1; new D; " + loop, "Main1 D5 D12"},
		{"an array", "Main.main() void: pushint 2; newarr; pushint 3; newarr; store 1; " + loop, "Main1 ints5 ints9"},
		{"a field", "Main.main() void: new D; store 1; load 1; new D; putfield D.y; load 1; getfield D.y; new D; putfield D.y; new D; pop; " + loop, "Main1 D5 D12 D19"},
		{"a field of an array's", "Main.main() void: new D; store 1; load 1; pushint 1; newarr; putfield D.z; " + loop, "Main1 D5 ints12"},
		{"a field that is volatile, of one above", "Main.main() void: new B; store 1; load 1; new A; putfield A.w; " + loop, "Main1 B5 A17"},
		{"a field that was", "Main.main() void: new D; store 1; load 1; new D; putfield D.y; load 1; null; putfield D.y; " + loop, "Main1 D5"},
		{"a local that was", "Main.main() void: new D; store 1; new D; store 1; " + loop, "Main1 D12"},
		{"a ring that nobody has", "Main.main() void: new D; store 1; new D; store 2; load 1; load 2; putfield D.y; load 2; load 1; putfield D.y; null; store 1; null; store 2; " + loop, "Main1"},
		{"a ring that somebody has", "Main.main() void: new D; store 1; new D; store 2; load 1; load 2; putfield D.y; load 2; load 1; putfield D.y; null; store 1; " + loop, "Main1 D5 D12"},
		// What looks like an address, but is none by its type.
		{"an integer", "Main.main() void: new D; pop; pushint 5; store 1; pushint 5; " + loop, "Main1"},
		{"a complex number", "Main.main() void: new D; pop; pushcplx 2.5e-323+2.5e-323i; store 1; " + loop, "Main1"},
		{"an element", "Main.main() void: new D; pop; pushint 1; newarr; dup; store 1; pushint 0; pushint 5; arrput; " + loop, "Main1 ints12"},
		{"numbers in fields", "Main.main() void: new D; pop; new D; store 1; load 1; pushint 5; putfield D.x; load 1; pushcplx 2.5e-323+2.5e-323i; putfield D.c; " + loop, "Main1 D12"},
		{"what may not be read", "Main.main() void: new D; store 1; pushint 0; ifone y; goto z; y: pushint 5; store 1; z: " + loop, "Main1"},
		{"what may not be read on one way", "Main.main() void: pushint 0; ifone z; new D; store 1; z: " + loop, "Main1"},
		{"null on the other way", "Main.main() void: new D; store 1; pushint 0; ifone y; goto z; y: null; store 1; z: " + loop, "Main1 D5"},
		{"what a frame had that is gone", "Main.main() void: new D; call D.id; pop; new D; call D.makes; pop; " + loop + "\nD.makes() int: new D; store 1; new D; pushint 1; retval", "Main1"},
	} {
		m := begun(t, 80, false, small+c.text)
		churn(t, m, 1)
		is(t, "P15.2: "+c.promise, kept(m), c.want)
	}
}

// keeps: behind some steps a thread goes on until there is a collection; what is there then.
func keeps(t *testing.T, promise string, weak bool, text, steps string, id int, want string) *Machine {
	t.Helper()
	m := begun(t, 100, weak, small+text)
	step(t, m, steps)
	churn(t, m, id)
	is(t, "P15.2: "+promise, kept(m), want)
	return m
}

// Of a frame that calls what it has left: what the call has taken is the other frame's, which may let it go.
func TestRootsOfFramesThatCall(t *testing.T) {
	const ahead = "Main.main() void: new D; new D; "
	for _, c := range []struct{ promise, text, steps, want string }{
		{"locals, and what is left on the stack", ahead + "store 1; new D; new D; call D.churn; pop; pop; ret", "1*6", "Main1 D5 D12 D19 D26"},
		{"the receiver and parameters", ahead + "new D; new D; pushint 2; newarr; call D.take; pop; ret\nD.take(D D arr) void: new D; store 1; null; store 3; load 0; call D.churn; ret", "1*9", "Main1 D5 D12 D26 D37"},
		{"all frames", ahead + "call D.one; pop; ret\nD.one() void: new D; dup; call D.two; pop; ret\nD.two() void: new D; new D; pop; store 1; new D; call D.churn; ret", "1*3", "Main1 D5 D12 D19 D26 D40"},
		{"not what is lost", ahead + "call D.lose; pop; ret\nD.lose() void: null; store 0; x: new J; pop; goto x", "1*3", "Main1 D5"},
		{"what is given back", ahead + "call D.id; x: new J; pop; goto x", "1*3", "Main1 D5 D12"},
		{"a handler's", ahead + "store 1; store 2; f: new D; null; throw; t: new D; dup; store 3; x: new J; pop; goto x; catch f t t 0", "1*6", "Main1 D5 D12 Fault26 D29"},
	} {
		m := begun(t, 100, false, small+c.text)
		step(t, m, c.steps)
		churn(t, m, 1)
		is(t, "P15.2: "+c.promise, kept(m), c.want)
	}
}

// Of threads that wait for something what they have left; of those that have ended nothing.
func TestRootsOfThreads(t *testing.T) {
	for _, c := range []struct{ promise, text, steps, states, want string }{
		{"one that joins", "Main.main() void: new D; new D; store 1; new D; spawn D.churn; join; pop; ret", "1*6", "JR", "Main1 D5 D12 D19"},
		{"one that waits", "Main.main() void: new D; spawn D.churn; pop; new D; new D; store 1; new D; enter 1; load 1; wait; exit 1; pop; pop; ret", "1*10", "WR", "Main1 D5 D12 D19 D26"},
		{"one that was notified", "Main.main() void: new D; dup; store 2; spawn D.tell; pop; new D; new D; store 1; new D; enter 2; load 2; wait; exit 2; pop; pop; ret\nD.tell() void: enter 0; load 0; notify; x: new J; pop; goto x", "1*12 2*3", "BR", "Main1 D5 D12 D19 D26"},
		{"one that is blocked", "Main.main() void: new D; dup; store 1; enter 1; spawn D.enters; pop; x: new J; pop; goto x\nD.enters() void: new D; new D; store 1; enter 0; exit 0; pop; ret", "1*6 2*4", "RB", "Main1 D5 D12 D19"},
		{"one that was begun", "Main.main() void: new D; spawn D.churn; pop; x: new J; pop; goto x", "1*3", "RR", "Main1 D5"},
		{"one that has ended", "Main.main() void: new D; spawn D.ends; pop; x: new J; pop; goto x\nD.ends() void: new D; store 1; new D; ret", "1*3 2*4", "RE", "Main1"},
		{"the first one has ended", "Main.main() void: new D; spawn D.churn; ret", "1*3", "ER", "D5"},
		{"one that was thrown out", "Main.main() void: new D; spawn D.throws; pop; x: new J; pop; goto x\nD.throws() void: new D; store 1; new D; throw", "1*3 2*4", "RE", "Main1"},
	} {
		m := begun(t, 80, false, small+c.text)
		step(t, m, c.steps)
		is(t, "P15.3: "+c.promise, states(m), c.states)
		churn(t, m, m.Ready()[0])
		is(t, "P15.2: "+c.promise, kept(m), c.want)
	}
}

func TestRootsOfBuffers(t *testing.T) {
	const loop = "x: new J; pop; goto x"
	for _, c := range []struct{ promise, text, held, flushed string }{
		{"what is named", "new D; pushint 5; putfield D.x; " + loop, "Main1 D5", "Main1"},
		{"an array that is named", "pushint 2; newarr; pushint 0; pushint 7; arrput; " + loop, "Main1 ints5", "Main1"},
		{"what is named refers to", "new D; dup; store 1; new D; volatile; load 1; pushint 5; putfield D.x; null; store 1; " + loop, "Main1 D5 D12", "Main1"},
		{"what is referred to", "new D; store 1; load 1; new D; putfield D.y; " + loop, "Main1 D5 D12", "Main1 D5 D12"},
		{"an array that is referred to", "new D; store 1; load 1; pushint 1; newarr; putfield D.z; " + loop, "Main1 D5 ints12", "Main1 D5 ints12"},
		{"both", "new D; new D; putfield D.y; " + loop, "Main1 D5 D12", "Main1"},
		{"one behind the other", "new D; new D; dup; store 1; putfield D.y; load 1; new D; putfield D.y; null; store 1; " + loop, "Main1 D5 D12 D19", "Main1"},
		{"each write, not the last one alone", "new D; store 1; load 1; new D; putfield D.y; load 1; new D; putfield D.y; " + loop, "Main1 D5 D12 D19", "Main1 D5 D19"},
		{"what was there", "new D; store 1; load 1; new D; volatile; load 1; null; putfield D.y; " + loop, "Main1 D5 D12", "Main1 D5"},
		{"no integer", "new D; store 1; new D; pop; load 1; pushint 12; putfield D.x; " + loop, "Main1 D5", "Main1 D5"},
		{"no complex number", "new D; store 1; new D; pop; load 1; pushcplx 6e-323+6e-323i; putfield D.c; " + loop, "Main1 D5", "Main1 D5"},
	} {
		// What is to be in the object ahead of the next write: it is put, and a volatile field is read.
		text := strings.ReplaceAll(c.text, "volatile", "putfield D.y; new A; getfield A.v; pop")
		m := begun(t, 80, true, small+"Main.main() void: "+text)
		churn(t, m, 1)
		is(t, "P15.2: "+c.promise, strings.ReplaceAll(kept(m), " A19", ""), c.held)
		for m.Flush(1) {
		}
		churn(t, m, 1)
		is(t, "P15.2: flushed: "+c.promise, strings.ReplaceAll(kept(m), " A19", ""), c.flushed)
	}
	// Another thread's.
	m := begun(t, 80, true, small+"Main.main() void: new D; spawn D.writes; pop; x: new J; pop; goto x\nD.writes() void: new D; new D; putfield D.y; null; store 0; yield; ret")
	step(t, m, "1*3 2*5")
	churn(t, m, 1)
	is(t, "P15.2: another thread's", kept(m), "Main1 D12 D19")
	step(t, m, "2*2")
	churn(t, m, 1)
	is(t, "P15.2: of one that has ended", kept(m), "Main1")
}

// No instruction takes anything ahead of the Fault that it makes.
func TestRootsOfFaults(t *testing.T) {
	for _, c := range []struct {
		code  string
		steps int
		words int
		want  string
	}{
		{"null; new D; putfield D.y; ret", 3, 7, "Main1 Fault5 D9"},
		{"pushint 1; newarr; pushint 1; pushint 7; arrput; ret", 5, 3, "Main1 Fault5 ints9"},
		{"pushint 1; newarr; pushint -1; arrget; out; ret", 4, 3, "Main1 Fault5 ints9"},
		{"null; new D; pushint 1; newarr; call D.take; ret", 5, 10, "Main1 Fault5 D9 ints16"},
		{"new D; cast J; pop; ret", 2, 7, "Main1 Fault5 D9"},
		{"new D; wait; ret", 2, 7, "Main1 Fault5 D9"},
		{"new D; notify; ret", 2, 7, "Main1 Fault5 D9"},
		{"new D; notifyall; ret", 2, 7, "Main1 Fault5 D9"},
		{"new D; pushint 101; newarr; pop; pop; ret", 3, 7, "Main1 Fault5 D9"},
		{"new D; pushint 1; pushint 0; rem; out; pop; ret", 4, 7, "Main1 Fault5 D9"},
		{"new D; pushint 5; join; pop; ret", 3, 7, "Main1 Fault5 D9"},
		{"new D; null; throw", 3, 7, "Main1 Fault5 D9"},
		{"new D; null; store 1; enter 1; exit 1; pop; ret", 4, 7, "Main1 Fault5 D9"},
		{"new D; new J; null; spawn J.f; pop; pop; pop; ret", 4, 9, "Main1 Fault5 D9"},
	} {
		m := begun(t, 8+c.words, false, small+"J.f() void: ret\nD.take(D arr) void: ret\nMain.main() void: new J; pop; new J; pop; "+c.code)
		step(t, m, fmt.Sprintf("1*%d", 4+c.steps-1))
		is(t, "P15.2: ahead of it", m.Collections(), 0)
		step(t, m, "1")
		is(t, "P15.2: "+c.code, fmt.Sprint(kept(m), m.Collections()), fmt.Sprint(c.want, 1))
	}
}

// What is released is forgotten by the monitors: what lies there next has a lock that was never entered.
func TestLocksOfWhatIsReleased(t *testing.T) {
	const four = "dup; store 1; dup; store 2; dup; store 3; store 4; enter 1; enter 2; enter 3; enter 4; exit 4; exit 3; exit 2; exit 1; "
	m := begun(t, 4+6, false, small+"Main.main() void: new J; "+four+"load 1; store 5; null; store 1; null; store 2; null; store 3; null; store 4; new J; "+four+"null; store 1; null; store 2; null; store 3; null; store 4; new J; pop; new J; x: ret")
	step(t, m, "1*16")
	is(t, "P15.6: the lock is fat", lockWord(m.Lock(5)), "0 0 fat [] []")
	step(t, m, "1*26")
	is(t, "P15.6: both are", lockWord(m.Lock(5))+lockWord(m.Lock(7)), "0 0 fat [] []0 0 fat [] []")
	step(t, m, "1*10")
	is(t, "P15.6: nothing is forgotten while nothing is released", fmt.Sprint(m.Collections(), lockWord(m.Lock(5)), lockWord(m.Lock(7)), m.Heap().All()), "00 0 fat [] []0 0 fat [] [][1 5 7 9]")
	step(t, m, "1")
	is(t, "P15.2: one has stayed, one has gone", fmt.Sprint(m.Collections(), m.Heap().All()), "1 [1 5 7]")
	is(t, "P15.2: what has stayed", lockWord(m.Lock(5)), "0 0 fat [] []")
	is(t, "P15.2: what has gone", lockWord(m.Lock(7)), "0 0 thin [] []")
}

// A lock that is taken is the lock of what a frame has.
func TestLocksOfWhatStays(t *testing.T) {
	m := begun(t, 60, false, small+"Main.main() void: new D; store 1; enter 1; load 1; spawn D.churn; pop; load 1; spawn D.enters; pop; load 1; wait; exit 1; ret\nD.enters() void: enter 0; exit 0; ret")
	step(t, m, "1*9 3 1*2")
	is(t, "P15.3: states", states(m), "WRR")
	churn(t, m, 2)
	is(t, "P15.2", kept(m)+lockWord(m.Lock(5)), "Main1 D53 1 fat [] [1]")
}
