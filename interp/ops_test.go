package interp

import (
	"fmt"
	"math"
	"strings"
	"testing"

	"loom/api"
)

// behind: what one instruction makes of the stack (and locals) that the text ahead of the bar has left, and where the thread stands then, counted from that instruction: 1 is behind it.
func behindOne(t *testing.T, ahead, one, rest, want string) {
	t.Helper()
	m := roomy(t, "Main.main() void: "+ahead+one+"; "+rest)
	count := strings.Count(ahead, ";")
	step(t, m, fmt.Sprintf("1*%d 1", count))
	f := m.Threads()[0].Frames[0]
	got := fmt.Sprintf("%d [%s] [%s] %v", f.Pc-count, valueWords(f.Locals[1:]), valueWords(f.Stack), append([]int{}, f.Locks...))
	if got != want {
		t.Errorf("P15.3: %s of %s:\n%s, not\n%s", one, ahead, got, want)
	}
	is(t, "P15.3: events of "+one, events(m), "")
}

const (
	most  = "9223372036854775807"
	least = "-9223372036854775808"
)

func TestWhatIsTakenAndPut(t *testing.T) {
	for _, c := range []struct{ ahead, one, rest, want string }{
		{"", "nop", "ret", "1 [] [] []"},
		{"pushint 4; ", "yield", "pop; ret", "1 [] [i4] []"},
		{"", "pushint -7", "pop; ret", "1 [] [i-7] []"},
		{"", "pushint " + least, "pop; ret", "1 [] [i" + least + "] []"},
		{"", "pushcplx -0-2i", "pop; ret", "1 [] [c(-0-2i)] []"},
		{"", "null", "pop; ret", "1 [] [null] []"},
		{"pushint 1; pushint 4; store 1; ", "load 1", "pop; pop; ret", "1 [i4] [i1 i4] []"},
		{"", "load 0", "pop; ret", "1 [] [@1] []"},
		{"pushint 1; pushint 4; ", "store 1", "pop; ret", "1 [i4] [i1] []"},
		{"pushcplx 2i; ", "store 1", "ret", "1 [c(0+2i)] [] []"},
		{"pushint 1; pushint 4; ", "pop", "pop; ret", "1 [] [i1] []"},
		{"pushint 1; pushint 4; ", "dup", "pop; pop; pop; ret", "1 [] [i1 i4 i4] []"},
		{"pushint 9; pushint 5; pushint 3; ", "add", "pop; pop; ret", "1 [] [i9 i8] []"},
		{"pushint 9; pushint 5; pushint 3; ", "sub", "pop; pop; ret", "1 [] [i9 i2] []"},
		{"pushint 9; pushint 5; pushint 3; ", "mul", "pop; pop; ret", "1 [] [i9 i15] []"},
		{"pushint 9; pushint -17; pushint 5; ", "div", "pop; pop; ret", "1 [] [i9 i-3] []"},
		{"pushint 9; pushint -17; pushint 5; ", "rem", "pop; pop; ret", "1 [] [i9 i-2] []"},
		{"pushint 9; pushint 5; ", "neg", "pop; pop; ret", "1 [] [i9 i-5] []"},
		{"pushint 9; pushint 5; pushint 3; ", "less", "pop; pop; ret", "1 [] [i9 i0] []"},
		{"pushint 9; pushint 3; pushint 5; ", "less", "pop; pop; ret", "1 [] [i9 i1] []"},
		{"pushint 3; pushint 3; ", "less", "pop; ret", "1 [] [i0] []"},
		{"pushint 9; pushint 3; pushint 5; ", "same", "pop; pop; ret", "1 [] [i9 i0] []"},
		{"pushint 9; pushint 3; pushint 3; ", "same", "pop; pop; ret", "1 [] [i9 i1] []"},
		// They wrap.
		{"pushint " + most + "; pushint 1; ", "add", "pop; ret", "1 [] [i" + least + "] []"},
		{"pushint " + least + "; pushint 1; ", "sub", "pop; ret", "1 [] [i" + most + "] []"},
		{"pushint " + most + "; pushint 2; ", "mul", "pop; ret", "1 [] [i-2] []"},
		{"pushint " + least + "; pushint -1; ", "div", "pop; ret", "1 [] [i" + least + "] []"},
		{"pushint " + least + "; pushint -1; ", "rem", "pop; ret", "1 [] [i0] []"},
		{"pushint " + least + "; ", "neg", "pop; ret", "1 [] [i" + least + "] []"},
		{"pushint " + least + "; pushint " + most + "; ", "less", "pop; ret", "1 [] [i1] []"},
		{"pushint 9; pushcplx 1+2i; pushcplx 5-1i; ", "cadd", "pop; pop; ret", "1 [] [i9 c(6+1i)] []"},
		{"pushint 9; pushcplx 1+2i; pushcplx 5-1i; ", "csub", "pop; pop; ret", "1 [] [i9 c(-4+3i)] []"},
		{"pushint 9; pushcplx 1+2i; pushcplx 5-1i; ", "cmul", "pop; pop; ret", "1 [] [i9 c(7+9i)] []"},
		{"pushint 9; pushcplx 1+2i; ", "cconj", "pop; pop; ret", "1 [] [i9 c(1-2i)] []"},
		{"pushcplx 1+0i; ", "cconj", "pop; ret", "1 [] [c(1-0i)] []"},
		{"pushint 9; pushcplx 1+2i; pushcplx 1+2i; ", "csame", "pop; pop; ret", "1 [] [i9 i1] []"},
		{"pushint 9; pushcplx 1+2i; pushcplx 1-2i; ", "csame", "pop; pop; ret", "1 [] [i9 i0] []"},
		{"pushcplx -0; pushcplx 0; ", "csame", "pop; ret", "1 [] [i0] []"},
		{"pushcplx NaN+1i; dup; ", "csame", "pop; ret", "1 [] [i1] []"},
		{"pushint 9; null; null; ", "rsame", "pop; pop; ret", "1 [] [i9 i1] []"},
		{"null; load 0; ", "rsame", "pop; ret", "1 [] [i0] []"},
		{"load 0; null; ", "rsame", "pop; ret", "1 [] [i0] []"},
		{"load 0; load 0; ", "rsame", "pop; ret", "1 [] [i1] []"},
		{"new A; new A; ", "rsame", "pop; ret", "1 [] [i0] []"},
		{"pushint 0; newarr; dup; ", "rsame", "pop; ret", "1 [] [i1] []"},
		{"pushint 0; newarr; pushint 0; newarr; ", "rsame", "pop; ret", "1 [] [i0] []"},
		{"pushint 0; newarr; null; ", "rsame", "pop; ret", "1 [] [i0] []"},
		{"pushint 1; ", "goto x", "nop; nop; x: pop; ret", "3 [] [i1] []"},
		{"pushint 1; pushint 0; ", "ifzero x", "nop; nop; x: pop; ret", "3 [] [i1] []"},
		{"pushint 1; pushint 2; ", "ifzero x", "nop; nop; x: pop; ret", "1 [] [i1] []"},
		{"pushint 1; pushint -1; ", "ifzero x", "nop; nop; x: pop; ret", "1 [] [i1] []"},
		{"pushint 1; pushint 0; ", "ifone x", "nop; nop; x: pop; ret", "1 [] [i1] []"},
		{"pushint 1; pushint 1; ", "ifone x", "nop; nop; x: pop; ret", "3 [] [i1] []"},
		{"pushint 1; pushint -5; ", "ifone x", "nop; nop; x: pop; ret", "3 [] [i1] []"},
		{"pushint 1; pushint 4294967296; ", "ifone x", "nop; nop; x: pop; ret", "3 [] [i1] []"},
		{"pushint 1; ", "new A", "pop; pop; ret", "1 [] [i1 @5] []"},
		{"pushint 1; pushint 2; ", "newarr", "pop; pop; ret", "1 [] [i1 []5] []"},
		{"pushint 1; pushint 0; ", "newarr", "pop; pop; ret", "1 [] [i1 []5] []"},
		{"pushint 1; pushint 100; ", "newarr", "pop; pop; ret", "1 [] [i1 []5] []"},
		{"pushint 1; pushint 7; newarr; ", "arrlen", "pop; pop; ret", "1 [] [i1 i7] []"},
		{"pushint 1; new A; dup; pushint 8; putfield A.n; ", "getfield A.n", "pop; pop; ret", "1 [] [i1 i8] []"},
		{"pushint 1; new A; dup; pushint 8; ", "putfield A.n", "pop; pop; ret", "1 [] [i1 @5] []"},
		{"pushint 1; new A; ", "getfield A.o", "pop; pop; ret", "1 [] [i1 null] []"},
		{"pushint 1; new A; ", "getfield A.l", "pop; pop; ret", "1 [] [i1 null] []"},
		{"new A; dup; new B; putfield A.o; ", "getfield A.o", "pop; ret", "1 [] [@16] []"},
		{"new A; dup; pushint 0; newarr; putfield A.l; ", "getfield A.l", "pop; ret", "1 [] [[]16] []"},
		{"new A; dup; pushcplx 1-2i; putfield A.c; ", "getfield A.c", "pop; ret", "1 [] [c(1-2i)] []"},
		{"new B; dup; pushint 3; putfield A.v; ", "getfield B.v", "pop; ret", "1 [] [i3] []"},
		{"pushint 1; pushint 3; newarr; dup; pushint 2; pushint 8; arrput; pushint 2; ", "arrget", "pop; pop; ret", "1 [] [i1 i8] []"},
		{"pushint 1; pushint 3; newarr; dup; pushint 2; pushint 8; ", "arrput", "pop; pop; ret", "1 [] [i1 []5] []"},
		{"pushint 1; new B; ", "cast A", "pop; pop; ret", "1 [] [i1 @5] []"},
		{"pushint 1; null; ", "cast A", "pop; pop; ret", "1 [] [i1 null] []"},
		{"new A; ", "cast Object", "pop; ret", "1 [] [@5] []"},
		{"new Object; ", "cast Object", "pop; ret", "1 [] [@5] []"},
		{"new G; ", "cast Fault", "pop; ret", "1 [] [@5] []"},
		{"pushint 1; new B; ", "is A", "pop; pop; ret", "1 [] [i1 i1] []"},
		{"pushint 1; new A; ", "is A", "pop; pop; ret", "1 [] [i1 i1] []"},
		{"pushint 1; new A; ", "is B", "pop; pop; ret", "1 [] [i1 i0] []"},
		{"pushint 1; new C; ", "is B", "pop; pop; ret", "1 [] [i1 i0] []"},
		{"pushint 1; null; ", "is Object", "pop; pop; ret", "1 [] [i1 i0] []"},
		{"new A; ", "is Object", "pop; ret", "1 [] [i1] []"},
		{"new G; ", "is Fault", "pop; ret", "1 [] [i1] []"},
		{"new Fault; ", "is F", "pop; ret", "1 [] [i0] []"},
		{"pushint 1; new A; store 1; ", "enter 1", "exit 1; pop; ret", "1 [@5] [i1] [1]"},
		{"pushint 1; new A; store 1; enter 0; enter 1; ", "exit 1", "exit 0; pop; ret", "1 [@5] [i1] [0]"},
		{"pushint 1; enter 0; load 0; ", "notify", "exit 0; pop; ret", "1 [] [i1] [0]"},
		{"pushint 1; enter 0; load 0; ", "notifyall", "exit 0; pop; ret", "1 [] [i1] [0]"},
		{"pushint 1; new A; ", "spawn A.run", "pop; pop; ret", "1 [] [i1 i2] []"},
	} {
		behindOne(t, c.ahead, c.one, c.rest, c.want)
	}
}

func TestOutAndOutC(t *testing.T) {
	m := roomy(t, "Main.main() void: pushint 1; pushint "+least+"; out; pushcplx 1.5-0i; outc; pop; ret")
	step(t, m, "1*3")
	is(t, "P15.3: it is taken", lastFrame(m, 1), "Main.main 3 [@1] [i1] []")
	is(t, "P15.3: an EOut", events(m), "1 out "+least)
	step(t, m, "1*2")
	is(t, "P15.3: it is taken", lastFrame(m, 1), "Main.main 5 [@1] [i1] []")
	is(t, "P15.3: an EOutC", events(m), "1 out "+least+"; 1 outc (1.5-0i)")
	list := m.Events()
	is(t, "P15.3: kinds", fmt.Sprint(list[0].Kind, list[1].Kind), fmt.Sprint(api.EOut, api.EOutC))
	is(t, "P15.3: bits", math.Float64bits(imag(list[1].Cplx)), uint64(1)<<63)
	// Who puts it out.
	m = roomy(t, "D\nD.f() void: pushint 5; out; pushcplx 5i; outc; ret\nMain.main() void: new D; spawn D.f; out; ret")
	step(t, m, "1*2 2*4 1*2 2")
	is(t, "P15.3: whose it is", events(m), "2 out 5; 2 outc (0+5i); 1 out 2; 1 end; 2 end")
}

// The codes of all faults: nothing of the frame's stack is left but the Fault.
func TestFaultsOfInstructions(t *testing.T) {
	names := strings.Fields("none FNull FBounds FArith FCast FDepth FState FSize")
	for _, c := range []struct{ ahead, one, want string }{
		{"pushint 5; pushint 0; ", "div; pop", "FArith"},
		{"pushint 5; pushint 0; ", "rem; pop", "FArith"},
		{"pushint 0; pushint 0; ", "div; pop", "FArith"},
		{"null; ", "getfield A.n; pop", "FNull"},
		{"null; ", "getfield A.v; pop", "FNull"},
		{"null; pushint 5; ", "putfield A.n", "FNull"},
		{"null; pushint 5; ", "putfield A.v", "FNull"},
		{"null; new A; ", "putfield A.o", "FNull"},
		{"pushint -1; ", "newarr; pop", "FSize"},
		{"pushint 101; ", "newarr; pop", "FSize"},
		{"pushint " + least + "; ", "newarr; pop", "FSize"},
		{"pushint " + most + "; ", "newarr; pop", "FSize"},
		{"pushint 4294967296; ", "newarr; pop", "FSize"},
		{"null; ", "arrlen; pop", "FNull"},
		{"null; pushint 0; ", "arrget; pop", "FNull"},
		{"null; pushint -1; ", "arrget; pop", "FNull"},
		{"pushint 3; newarr; pushint 3; ", "arrget; pop", "FBounds"},
		{"pushint 3; newarr; pushint -1; ", "arrget; pop", "FBounds"},
		{"pushint 0; newarr; pushint 0; ", "arrget; pop", "FBounds"},
		{"pushint 3; newarr; pushint 4294967296; ", "arrget; pop", "FBounds"},
		{"pushint 3; newarr; pushint " + least + "; ", "arrget; pop", "FBounds"},
		{"null; pushint 0; pushint 0; ", "arrput", "FNull"},
		{"null; pushint 5; pushint 0; ", "arrput", "FNull"},
		{"pushint 3; newarr; pushint 3; pushint 1; ", "arrput", "FBounds"},
		{"pushint 3; newarr; pushint -1; pushint 1; ", "arrput", "FBounds"},
		{"pushint 3; newarr; pushint " + most + "; pushint 1; ", "arrput", "FBounds"},
		{"null; ", "call A.run", "FNull"},
		{"null; pushint 1; pushint 2; ", "call A.add; pop", "FNull"},
		{"null; ", "throw", "FNull"},
		{"new A; ", "cast B; pop", "FCast"},
		{"new C; ", "cast B; pop", "FCast"},
		{"new Object; ", "cast A; pop", "FCast"},
		{"new Fault; ", "cast G; pop", "FCast"},
		{"null; store 2; ", "enter 2; exit 2", "FNull"},
		{"null; ", "wait", "FNull"},
		{"null; ", "notify", "FNull"},
		{"null; ", "notifyall", "FNull"},
		{"load 0; ", "wait", "FState"},
		{"load 0; ", "notify", "FState"},
		{"load 0; ", "notifyall", "FState"},
		{"enter 0; exit 0; load 0; ", "wait", "FState"},
		{"new A; store 2; new A; ", "notify", "FState"},
		{"null; ", "spawn A.run; pop", "FNull"},
		{"pushint 0; ", "join", "FBounds"},
		{"pushint -1; ", "join", "FBounds"},
		{"pushint 2; ", "join", "FBounds"},
		{"pushint 13; ", "join", "FBounds"},
		{"pushint 4294967297; ", "join", "FBounds"},
		{"pushint " + least + "; ", "join", "FBounds"},
	} {
		rest := "; x: ret; y: dup; cast Fault; getfield Fault.code; out; ret; catch f x y 0"
		if c.one == "throw" {
			rest = strings.Replace(rest, "; x: ret", "; x: nop; ret", 1)
		}
		m := roomy(t, "Main.main() void: pushint 1; new A; store 1; "+c.ahead+"f: "+c.one+rest)
		step(t, m, fmt.Sprintf("1*%d", 4+strings.Count(c.ahead, ";")))
		f := m.Threads()[0].Frames[0]
		if len(f.Stack) != 1 || m.Class(f.Stack[0].Ref) != "Fault" || len(f.Locks) != 0 {
			t.Errorf("P15.4: %s of %s: %s", c.one, c.ahead, frameWords(f))
			continue
		}
		step(t, m, "1*4")
		list := m.Events()
		if len(list) != 1 || names[list[0].Int] != c.want {
			t.Errorf("P15.4: %s of %s: %s, not %s", c.one, c.ahead, events(m), c.want)
		}
	}
}

// What fails changes nothing but what a throw changes.
func TestWhatFailsIsNotDone(t *testing.T) {
	puts(t, "P15.3", "pushint 1; newarr; store 1; f: load 1; pushint 1; pushint 7; arrput; x: ret; y: pop; load 1; pushint 0; arrget; out; ret; catch f x y 0", "1 out 0; 1 end")
	puts(t, "P15.3", "f: null; spawn A.run; pop; x: ret; y: pop; new A; spawn A.run; out; ret; catch f x y 0", "1 out 2; 1 end; 2 end")
	puts(t, "P15.3", "new A; store 1; enter 1; f: pushint 9; join; x: exit 1; ret; y: pop; load 1; notify; exit 1; ret; catch f x y 1", "1 end")
}

func TestCalls(t *testing.T) {
	m := roomy(t, "E: e int\nE.sum(int cplx arr A) int: load 1; store 6; load 6; retval\nE.nothing(int) void: nop; ret\nMain.main() void: pushint 9; new E; pushint 1; pushcplx 2i; pushint 3; newarr; new A; call E.sum; out; new E; pushint 4; call E.nothing; pop; ret")
	step(t, m, "1*7")
	is(t, "P15.3: ahead of the call", lastFrame(m, 1), "Main.main 7 [@1] [i9 @5 i1 c(0+2i) []8 @13] []")
	step(t, m, "1")
	is(t, "P15.3: a new frame; the caller has what the call left", shown(m, 1), "1 ready; Main.main 7 [@1] [i9] []; E.sum 0 [@5 i1 c(0+2i) []8 @13 - -] [] []")
	step(t, m, "1*3")
	is(t, "P15.3: ahead of its end", lastFrame(m, 1), "E.sum 3 [@5 i1 c(0+2i) []8 @13 - i1] [i1] []")
	step(t, m, "1")
	is(t, "P15.3: the caller goes on, with the result", shown(m, 1), "1 ready; Main.main 8 [@1] [i9 i1] []")
	step(t, m, "1*3 1")
	is(t, "P15.3: without a result", shown(m, 1), "1 ready; Main.main 11 [@1] [i9] []; E.nothing 0 [@24 i4] [] []")
	step(t, m, "1*2")
	is(t, "P15.3: the caller goes on", shown(m, 1), "1 ready; Main.main 12 [@1] [i9] []")
	is(t, "P15.3: events", events(finish(t, m)), "1 out 1; 1 end")
}

// Results of all kinds.
func TestResults(t *testing.T) {
	m := roomy(t, "Main.i() int: pushint -3; retval\nMain.c() cplx: pushcplx 1-1i; retval\nMain.l() arr: pushint 2; newarr; retval\nMain.o() A: new B; retval\nMain.n() A: null; retval\nMain.p() A: pushint 1; pop; new A; dup; pop; retval\nMain.main() void: load 0; call Main.i; load 0; call Main.c; load 0; call Main.l; load 0; call Main.o; load 0; call Main.n; load 0; call Main.p; x: pop; pop; pop; pop; pop; pop; ret")
	for m.Threads()[0].Frames[0].Pc < 12 {
		step(t, m, "1")
	}
	is(t, "P15.3: results", lastFrame(m, 1), "Main.main 12 [@1] [i-3 c(1-1i) []5 @9 null @21] []")
}

// Who is called hangs on the object's class, not on the constant's.
func TestWhoIsCalled(t *testing.T) {
	puts(t, "P15.3", "new A; call A.who; out; new B; call A.who; out; new B; call B.who; out; new C; call C.who; out; new C; call A.who; out; new B; cast A; call A.who; out; ret", "1 out 1; 1 out 2; 1 out 2; 1 out 1; 1 out 1; 1 out 2; 1 end")
	const text = "P\nP.run() void: pushint 1; out; ret\nQ < P: q int\nQ.run() void: load 0; getfield Q.q; out; ret\nR < Q\n"
	m := roomy(t, text+"Main.main() void: new R; cast P; spawn P.run; pop; new P; spawn P.run; pop; ret")
	step(t, m, "1*3")
	is(t, "P15.3: whose frame it is", lastFrame(m, 2), "Q.run 0 [@5] [] []")
	step(t, m, "1*3")
	is(t, "P15.3: whose frame it is", lastFrame(m, 3), "P.run 0 [@8] [] []")
	is(t, "P15.3: which method is run", events(finish(t, m)), "1 end; 2 out 0; 2 end; 3 out 1; 3 end")
}

// deep: a call within the other, as many as the number says.
const deep = "Main.deep(int) void: load 1; pushint 1; sub; store 1; load 1; ifzero x; load 0; load 1; call Main.deep; ret; x: yield; %s; ret\n"

func TestMaxDepth(t *testing.T) {
	main := func(count int) string {
		return fmt.Sprintf(deep, "nop") + fmt.Sprintf("Main.main() void: load 0; pushint %d; call Main.deep; pushint 7; out; ret", count)
	}
	is(t, "P15.3: as many as may be", outcome(t, main(api.MaxDepth-1)), "1 out 7; 1 end")
	is(t, "P15.3: one more", outcome(t, main(api.MaxDepth)), "1 uncaught Fault 5")
	m := roomy(t, main(api.MaxDepth))
	for len(m.Threads()[0].Frames) < api.MaxDepth {
		step(t, m, "1")
	}
	step(t, m, "1*8")
	is(t, "P15.3: ahead of the call", lastFrame(m, 1), "Main.deep 8 [@1 i1] [@1 i1] []")
	step(t, m, "1")
	is(t, "P15.4: nobody catches it", events(m)+shown(m, 1), "1 uncaught Fault 51 ended")
	// It may be caught, and there may be other calls then.
	is(t, "P15.3: caught in the last frame", outcome(t, fmt.Sprintf(deep, "f: load 0; call Main.leaf; y: ret; h: dup; cast Fault; getfield Fault.code; out; pop; catch f y h 0")+"Main.leaf() void: ret\nMain.main() void: load 0; pushint 19; call Main.deep; load 0; call Main.leaf; pushint 7; out; ret"), "1 out 5; 1 out 7; 1 end")
	// Null comes first; each thread has frames of its own.
	is(t, "P15.3: null", outcome(t, fmt.Sprintf(deep, "null; call A.run")+"Main.main() void: load 0; pushint 19; call Main.deep; ret"), "1 uncaught Fault 1")
	is(t, "P15.3: of each thread", outcome(t, fmt.Sprintf(deep, "new D; spawn D.goes; join")+"D\nD.goes() void: new Main; pushint 18; call Main.down; ret\nMain.down(int) void: load 1; ifzero x; load 0; load 1; pushint 1; sub; call Main.down; ret; x: pushint 5; out; ret\nMain.main() void: load 0; pushint 19; call Main.deep; pushint 7; out; ret"), "2 out 5; 2 end; 1 out 7; 1 end")
}

// A main that is called is no thread's last frame.
func TestMainIsCalled(t *testing.T) {
	is(t, "P15.3", outcome(t, "Main.main() void: load 0; getfield Main.k; ifone x; load 0; pushint 1; putfield Main.k; load 0; call Main.main; pushint 8; out; x: ret"), "1 out 8; 1 end")
}
