package roots

import (
	"fmt"
	"math"
	"slices"
	"strings"
	"testing"

	"loom/api"
)

func TestIsRef(t *testing.T) {
	kinds := []int{math.MinInt, math.MinInt32, -256, math.MaxInt32, math.MaxInt, 256, 1<<32 + api.TRef}
	for kind := -20; kind <= 300; kind++ {
		kinds = append(kinds, kind)
	}
	for _, kind := range kinds {
		want := slices.Contains([]int{api.TArr, api.TRef, api.TNull}, kind)
		// A type's class says nothing, whether it has one that is there, or none.
		for _, class := range []string{"", "A", "Object", "no class", "\xff"} {
			if got := IsRef(api.Type{Kind: kind, Class: class}); got != want {
				t.Errorf("P10.1: IsRef(%d %q): %v", kind, class, got)
			}
		}
	}
}

func TestBehindNullIsOneReference(t *testing.T) {
	has(t, method(t, "", 0, 1, "null; pop; ret"), "r| r|r r|")
}

func TestLocalsOfAllTypes(t *testing.T) {
	has(t, method(t, "", 6, 1, `pushint 7; store 1; pushcplx 7i; store 2; pushint 7; newarr; store 3;
		new A; store 4; null; store 5; ret`), `
		r......| r......|. r......| r......|. r......| r......|. r......|r r..r...|
		r..r...|r r..rr..| r..rr..|r r..rrr.|`)
	// One local that is each of them by turns.
	has(t, method(t, "", 1, 1, `null; store 1; pushint 7; store 1; new B; store 1; pushcplx 7i; store 1;
		pushint 7; newarr; store 1; pushint 7; store 1; ret`), `
		r.| r.|r rr| rr|. r.| r.|r rr| rr|. r.| r.|. r.|r rr| rr|. r.|`)
	// The receiver, overwritten.
	has(t, method(t, "", 0, 1, "pushint 7; store 0; pushcplx 7i; store 0; load 0; pop; ret"), "r| r|. .| .|. .| .|. .|")
	has(t, method(t, "", 0, 1, "null; store 0; load 0; pop; ret"), "r| r|r r| r|r r|")
}

func TestStackPlaceByPlace(t *testing.T) {
	has(t, method(t, "", 0, 0, "ret"), "r|")
	has(t, method(t, "", 0, 2, "null; pushint 7; pop; pop; ret"), "r| r|r r|r. r|r r|")
	has(t, method(t, "", 0, 2, "pushint 7; null; pop; pop; ret"), "r| r|. r|.r r|. r|")
	has(t, method(t, "", 0, 2, "pushcplx 7i; new A; pop; pop; ret"), "r| r|. r|.r r|. r|")
	// A complex number is one place, however many words it has.
	has(t, method(t, "", 0, 5, "new A; pushcplx 7i; load 0; pushcplx 7i; null; ret"), "r| r|r r|r. r|r.r r|r.r. r|r.r.r")
	has(t, method(t, "", 0, 5, "pushint 7; newarr; dup; pushint 7; dup; arrput; pop; ret"), "r| r|. r|r r|rr r|rr. r|rr.. r|r r|")
}

func TestStackOfAllInstructions(t *testing.T) {
	for text, want := range map[string]string{
		"pushint 7; dup; ret":                                       "r| r|. r|..",
		"new A; dup; ret":                                           "r| r|r r|rr",
		"pushint 7; dup; add; neg; ret":                             "r| r|. r|.. r|. r|.",
		"pushcplx 7i; dup; csame; ret":                              "r| r|. r|.. r|.",
		"pushcplx 7i; cconj; dup; cmul; ret":                        "r| r|. r|. r|.. r|.",
		"null; load 0; rsame; ret":                                  "r| r|r r|rr r|.",
		"new A; getfield A.n; ret":                                  "r| r|r r|.",
		"new A; getfield A.o; ret":                                  "r| r|r r|r",
		"new A; getfield A.z; ret":                                  "r| r|r r|.",
		"new A; getfield A.l; ret":                                  "r| r|r r|r",
		"new A; null; putfield A.o; ret":                            "r| r|r r|rr r|",
		"new A; pushint 7; putfield A.n; ret":                       "r| r|r r|r. r|",
		"pushint 7; newarr; arrlen; ret":                            "r| r|. r|r r|.",
		"null; pushint 7; arrget; ret":                              "r| r|r r|r. r|.",
		"new A; call A.run(); ret":                                  "r| r|r r|",
		"new A; call A.give(); ret":                                 "r| r|r r|r",
		"new A; pushint 7; call A.list(); ret":                      "r| r|r r|r. r|r",
		"new A; spawn A.run(); join; ret":                           "r| r|r r|. r|",
		"new A; is B; out; ret":                                     "r| r|r r|. r|",
		"new A; cast B; ret":                                        "r| r|r r|r",
		"null; cast B; ret":                                         "r| r|r r|r",
		"enter 0; load 0; notifyall; exit 0; ret":                   "r| r| r|r r| r|",
		"pushcplx 7i; outc; yield; nop; ret":                        "r| r|. r| r| r|",
		"null; throw":                                               "r| r|r",
		"null; pushint 7; pushcplx 7i; null; null; store 0; ret":    "r| r|r r|r. r|r.. r|r..r r|r..rr r|r..r",
		"load 0; pushint 7; pushcplx 7i; null; null; pop; ret":      "r| r|r r|r. r|r.. r|r..r r|r..rr r|r..r",
		"null; pushint 7; ifone x; x: null; x2: pushint 7; ret":     "r| r|r r|r. r|r r|rr r|rr.",
		"new A; pushint 7; pushcplx 7i; null; null; goto x; x: ret": "r| r|r r|r. r|r.. r|r..r r|r..rr r|r..rr",
	} {
		has(t, method(t, "", 0, 5, text), want)
	}
}

// As many places as there may be, and as many locals.
func TestStackAsHighAsTheMethodSays(t *testing.T) {
	for _, stack := range []int{1, 2, 3, api.MaxStack - 1, api.MaxStack} {
		text, letters := "", ""
		want := []string{"r|"}
		for at := range stack {
			text += []string{"null;", "pushint 7;", "pushcplx 7i;", "load 0;", "pushint -1;"}[at%5]
			letters += string("r..r."[at%5])
			want = append(want, "r|"+letters)
		}
		has(t, method(t, "", 0, stack, text+"ret"), strings.Join(want, " "))
		refused(t, world(method(t, "", 0, stack-1, text+"ret")), api.ErrStack)
	}
}

func TestAsManyLocalsAsThereMayBe(t *testing.T) {
	locals := []byte("r" + strings.Repeat(".", api.MaxLocals-1))
	text, want := "", []string{string(locals) + "|"}
	for at := 1; at < api.MaxLocals; at++ {
		text += fmt.Sprintf("%s; store %d;", []string{"null", "pushint 7", "new A", "pushcplx 7i"}[at%4], at)
		letter := "r.r."[at%4]
		want = append(want, fmt.Sprintf("%s|%c", locals, letter))
		locals[at] = letter
		want = append(want, string(locals)+"|")
	}
	has(t, method(t, "", api.MaxLocals-1, 1, text+"ret"), strings.Join(want, " "))
}

// Local 1 is one of these on one way, another one on the other way.
func TestWhereTwoWaysMeet(t *testing.T) {
	for _, c := range []struct{ one, other, want string }{
		// A reference on both: told, if one type has both.
		{"new A", "new A", "r"}, {"new A", "new B", "r"}, {"new B", "new C", "r"}, {"new A", "load 0", "r"}, {"new A", "new Fault", "r"},
		{"new A", "null", "r"}, {"null", "null", "r"}, {"pushint 7; newarr", "null", "r"}, {"pushint 7; newarr", "pushint 7; newarr", "r"},
		// An array is no object: no type has both, nobody may load it any more.
		{"pushint 7; newarr", "new A", "."}, {"pushint 7; newarr", "load 0", "."},
		// A reference on one alone.
		{"new A", "pushint 7", "."}, {"null", "pushint 7", "."}, {"null", "pushcplx 7i", "."}, {"load 0", "pushcplx 7i", "."}, {"pushint 7; newarr", "pushint 7", "."},
		// On none.
		{"pushint 7", "pushint -1", "."}, {"pushint 7", "pushcplx 7i", "."},
	} {
		for _, w := range [][2]string{{c.one, c.other}, {c.other, c.one}} {
			m := method(t, "", 1, 1, "pushint 7; ifone x; "+w[0]+"; store 1; goto y; x: "+w[1]+"; store 1; y: nop; ret")
			maps, last := mapsOf(t, linked(t, world(m))), len(m.Code)-1
			if got := tell(maps, "Main", "it", last-1) + tell(maps, "Main", "it", last); got != "r"+c.want+"|r"+c.want+"|" {
				t.Errorf("P10.1: %s and %s meet: %s", w[0], w[1], got)
			}
		}
		// Unset on one.
		for _, one := range []string{c.one, c.other} {
			m := method(t, "", 1, 1, "pushint 7; ifone x; "+one+"; store 1; nop; x: nop; ret")
			maps, last := mapsOf(t, linked(t, world(m))), len(m.Code)-1
			alone := map[bool]string{true: ".", false: "r"}[strings.HasPrefix(one, "push") && !strings.HasSuffix(one, "newarr")]
			if got := tell(maps, "Main", "it", last-2) + tell(maps, "Main", "it", last-1) + tell(maps, "Main", "it", last); got != "r"+alone+"|r.|r.|" {
				t.Errorf("P10.1: %s and unset meet: %s", one, got)
			}
		}
	}
}

// The same on the stack, where all that meets must be of one type.
func TestWhereTwoStacksMeet(t *testing.T) {
	for _, c := range []struct {
		one, other, want string
		err              api.Errno
	}{
		{"new A", "new B", "r", api.OK}, {"new A", "null", "r", api.OK}, {"null", "null", "r", api.OK}, {"pushint 7; newarr", "null", "r", api.OK}, {"load 0", "new A", "r", api.OK},
		{"pushint 7", "pushint 2", ".", api.OK}, {"pushcplx 7i", "pushcplx 7i", ".", api.OK},
		{"new A", "pushint 7", "", api.ErrType}, {"null", "pushint 7", "", api.ErrType}, {"null", "pushcplx 7i", "", api.ErrType}, {"pushint 7; newarr", "new A", "", api.ErrType}, {"pushint 7", "pushcplx 7i", "", api.ErrType},
		{"null", "null; null", "", api.ErrStack}, {"null", "nop", "", api.ErrStack},
	} {
		for _, w := range [][2]string{{c.one, c.other}, {c.other, c.one}} {
			for _, below := range []string{"null", "pushint 7"} {
				m := method(t, "", 0, 4, below+"; pushint 7; ifone x; "+w[0]+"; goto y; x: "+w[1]+"; y: ret")
				if c.err != api.OK {
					refused(t, world(m), c.err)
					continue
				}
				want := "r|" + map[string]string{"null": "r", "pushint 7": "."}[below] + c.want
				if got := tell(mapsOf(t, linked(t, world(m))), "Main", "it", len(m.Code)-1); got != want {
					t.Errorf("P10.1: %s and %s meet: %s, not %s", w[0], w[1], got, want)
				}
			}
		}
	}
}

// What comes to a loop's beginning the second time counts there, too, and ahead of what changes it.
func TestWhereALoopMeetsItself(t *testing.T) {
	has(t, method(t, "", 1, 1, "null; store 1; top: nop; pushint 7; store 1; goto top"), "r.| r.|r r.| r.| r.|. r.|")
	has(t, method(t, "", 1, 1, "null; store 1; top: nop; new A; store 1; goto top"), "r.| r.|r rr| rr| rr|r rr|")
	has(t, method(t, "A", 1, 1, "top: nop; load 1; store 2; pushint 7; ifone top; ret"), "rr.| rr.| rr.|r rrr| rrr|. rrr|")
}

func TestAtAHandlersTarget(t *testing.T) {
	// One reference is on the stack there, whatever was on it where it was thrown.
	for _, class := range []string{"", "Fault", "A", "Object"} {
		has(t, method(t, "", 1, 3, "x: pushint 7; pushcplx 7i; pushint 7; y: ret; z: pop; ret; catch x y z 0 "+class), "r.| r.|. r.|.. r.|... r.|r r.|")
	}
	// Its locals are those of all instructions that may throw to it.
	has(t, method(t, "", 2, 1, "new A; store 1; x: new A; store 2; pushint 7; y: store 1; ret; z: pop; ret; catch x y z 0"), `
		r..| r..|r rr.| rr.|r rrr| rrr|. r.r| rr.|r rr.|`)
	has(t, method(t, "", 1, 1, "new A; store 1; x: pushint 7; store 1; nop; y: ret; z: pop; ret; catch x y z 0"), "r.| r.|r rr| rr|. r.| r.| r.|r r.|")
	has(t, method(t, "", 1, 1, "null; store 1; x: new A; store 1; nop; y: ret; z: pop; ret; catch x y z 0 B"), "r.| r.|r rr| rr|r rr| rr| rr|r rr|")
	// Of a range that isn't reached nothing comes.
	has(t, method(t, "", 0, 1, "goto end; x: nop; y: nop; z: pop; end: ret; catch x y z 0"), "r| none none none r|")
	// Locked on the way.
	has(t, method(t, "A", 0, 1, "enter 1; x: nop; y: exit 1; ret; z: pop; exit 1; ret; catch x y z 1"), "rr| rr| rr| rr| rr|r rr| rr|")
}

func TestAtTheFirstInstruction(t *testing.T) {
	for params, want := range map[string]string{
		"": "r....|", "int": "r.....|", "cplx": "r.....|", "arr": "rr....|", "A": "rr....|", "Object": "rr....|", "Main": "rr....|", "Fault": "rr....|",
		"int cplx arr A B Fault": "r..rrrr....|", "A int arr cplx B int": "rr.r.r.....|", "int int int int int int": "r..........|", "A A A A A A": "rrrrrrr....|", "cplx arr": "r.r....|",
	} {
		m := method(t, params, 4, 0, "ret")
		has(t, m, want)
		// Of another class, below another one.
		l := append(world(), api.Class{Name: "Low", Super: "B", Methods: []api.Method{m}})
		if got := tell(mapsOf(t, linked(t, l)), "Low", "it", 0); got != want {
			t.Errorf("P10.1: %s: %s, not %s", params, got, want)
		}
	}
	// A loop back to it.
	has(t, method(t, "A int", 1, 1, "pushint 7; store 1; goto x; x: goto y; y: ret"), "rr..| rr..|. r...| r...| r...|")
	has(t, method(t, "A int", 1, 1, "top: pushint 7; store 1; goto top"), "r...| r...|. r...|")
}

func TestInstructionsThatAreNotReached(t *testing.T) {
	has(t, method(t, "A", 0, 1, "ret; nop; null; ret"), "rr| none none none")
	has(t, method(t, "A", 0, 1, "goto x; add; y: null; pop; goto y; x: ret"), "rr| none none none none rr|")
	has(t, method(t, "A", 0, 1, "null; throw; store 1; load 1; ret"), "rr| rr|r none none none")
	has(t, giving(method(t, "A", 0, 1, "load 1; retval; exit 0; ret"), "A"), "rr| rr|r none none")
	has(t, method(t, "A", 0, 1, "top: goto top; null; ret"), "rr| none none")
}
