package roots

import (
	"fmt"
	"math"
	"strings"
	"testing"

	"loom/api"
	"loom/link"
	"loom/locks"
)

func TestNoSuchInstruction(t *testing.T) {
	most := method(t, "A", 0, 1, strings.Repeat("nop;", api.MaxCode-1)+"ret")
	for _, m := range []api.Method{method(t, "A", 0, 1, "ret"), method(t, "A", 0, 1, "null; pop; ret"), method(t, "A", 0, 1, "null; throw; ret"), most} {
		maps, count := mapsOf(t, linked(t, world(m))), len(m.Code)
		for _, pc := range []int{-1, -2, -count, count, count + 1, 2 * count, api.MaxCode, 999, 1 << 16, 1 << 32, 1<<32 - 1, -1 << 32, math.MaxInt32, math.MinInt32, math.MaxInt, math.MinInt} {
			if got := tell(maps, "Main", "it", pc); got != "none" {
				t.Errorf("P10.1: %d of %d instructions: %s", pc, count, got)
			}
		}
		if got := tell(maps, "Main", "it", 0); got != "rr|" {
			t.Errorf("P10.1: %s", got)
		}
	}
	maps := mapsOf(t, linked(t, world(most)))
	if got := tell(maps, "Main", "it", api.MaxCode-1); got != "rr|" {
		t.Errorf("P10.1: the last one: %s", got)
	}
}

func TestNoSuchMethod(t *testing.T) {
	l := append(world(method(t, "A", 0, 1, "null; pop; ret")), api.Class{Name: "Lower", Super: "Main"}, api.Class{Name: "Over", Super: "Main", Methods: []api.Method{plain("main")}})
	maps := mapsOf(t, linked(t, l))
	for _, c := range [][2]string{
		// No such class.
		{"X", "it"}, {"", ""}, {"", "it"}, {"main", "main"}, {"Main ", "it"}, {" Main", "it"}, {"MAIN", "it"}, {"it", "Main"},
		// No such method.
		{"Main", ""}, {"Main", "It"}, {"Main", "it "}, {"Main", "Main"}, {"Main", "run"}, {"A", "n"}, {"A", "it"}, {"C", "main"},
		// One that only an ancestor has, or one below.
		{"Lower", "it"}, {"Lower", "main"}, {"Over", "it"}, {"B", "run"}, {"C", "give"}, {"B", "take"},
		{"Object", "it"}, {"Object", "main"}, {"Object", "run"}, {"Object", ""}, {"Fault", "it"}, {"Fault", "main"}, {"Fault", "code"}, {"Fault", ""},
		{strings.Repeat("A", 1000), "run"}, {"A", strings.Repeat("run", 1000)}, {"\x00", "\xff"},
	} {
		for pc := -2; pc < 6; pc++ {
			if got := tell(maps, c[0], c[1], pc); got != "none" {
				t.Errorf("P10.1: %q %q %d: %s", c[0], c[1], pc, got)
			}
		}
	}
	for words, want := range map[string]string{"Main it": "rr|", "Main main": "r|", "Over main": "r|", "A run": "r|", "A take": "r..rr|", "A give": "r|", "A list": "r.|"} {
		if c := strings.Fields(words); tell(maps, c[0], c[1], 0) != want {
			t.Errorf("P10.1: %s: %s", words, tell(maps, c[0], c[1], 0))
		}
	}
}

// A class's own method, not that of the class above, which has another code.
func TestTwoMethodsOfOneName(t *testing.T) {
	one, other := method(t, "A", 0, 1, "null; pop; ret"), method(t, "A", 2, 2, "pushint 7; pushint 7; pop; store 1; ret")
	const wantOne, wantOther = "rr| rr|r rr| none none", "rr..| rr..|. rr..|.. rr..|. r...|"
	for _, low := range []api.Class{{Name: "Low", Super: "Up"}, {Name: "Low", Super: "Main"}, {Name: "Low"}} {
		up := api.Class{Name: "Up", Pool: pool(), Methods: []api.Method{one}}
		low.Pool, low.Methods = pool(), []api.Method{other}
		for _, l := range [][]api.Class{append([]api.Class{low, up}, world()...), append(world(), up, low)} {
			maps := mapsOf(t, linked(t, l))
			if got := tellAll(maps, "Up", "it", 5); got != wantOne {
				t.Errorf("P10.1: above: %s", got)
			}
			if got := tellAll(maps, "Low", "it", 5); got != wantOther {
				t.Errorf("P10.1: below: %s", got)
			}
		}
	}
}

// Names that read the same when they are written one behind the other, whatever may stand between.
func TestNamesThatReadTheSame(t *testing.T) {
	pairs := strings.Split("A bc,Ab c,a bA,ab A,aa a,a aa,A_ b,A _b,A$ b,A $b,N m,N m1,N1 m,Nm m,N Nm", ",")
	var order []string
	methods := map[string][]api.Method{}
	for at, pair := range pairs {
		w := strings.Fields(pair)
		if methods[w[0]] == nil {
			order = append(order, w[0])
		}
		// Each has a code of its own length, with references where no other one has them.
		text := strings.Repeat("pushint 7; pop;", at) + "null; pop; ret"
		methods[w[0]] = append(methods[w[0]], named(method(t, "", at, 1, text), w[1]))
	}
	l := []api.Class{{Name: "Main", Methods: []api.Method{plain("main")}}}
	for _, name := range order {
		l = append(l, api.Class{Name: name, Pool: pool()[:1], Methods: methods[name]})
	}
	maps := mapsOf(t, linked(t, l))
	for at, pair := range pairs {
		w := strings.Fields(pair)
		locals := "r" + strings.Repeat(".", at)
		want := strings.Repeat(locals+"| "+locals+"|. ", at) + locals + "| " + locals + "|r " + locals + "| none none"
		if got := tellAll(maps, w[0], w[1], 2*at+5); got != want {
			t.Errorf("P10.1: %s: %s, not %s", pair, got, want)
		}
	}
	for _, between := range []string{"", ".", " ", "\x00", "/", ":", "_", "$"} {
		for _, c := range [][2]string{{"N" + between, "m"}, {"N", between + "m"}, {"N" + between + "m", ""}, {"", "N" + between + "m"}, {"N" + between + "m", "0"}} {
			if between == "" && c[0] == "N" {
				continue
			}
			if got := tell(maps, c[0], c[1], 0); got != "none" {
				t.Errorf("P10.1: %q %q: %s", c[0], c[1], got)
			}
		}
	}
}

// bad: methods that verify, or locks, refuses, by their errors.
func bad(t testing.TB) map[string]api.Errno {
	t.Helper()
	return map[string]api.Errno{
		"pop; ret":                            api.ErrStack,
		"null; null; null; ret":               api.ErrStack,
		"load 2; ret":                         api.ErrUnset,
		"null; out; ret":                      api.ErrType,
		"enter 1; ret":                        api.ErrLock,
		"exit 1; ret":                         api.ErrLock,
		"enter 1; null; store 1; exit 1; ret": api.ErrLock,
	}
}

func TestRefusedInAnyClass(t *testing.T) {
	good := method(t, "A", 1, 2, "null; pop; ret")
	for text, want := range bad(t) {
		m := named(method(t, "A", 1, 2, text), "bad")
		refused(t, world(m), want)
		refused(t, world(good, m), want)
		refused(t, world(m, good), want)
		with := api.Class{Name: "Bad", Pool: pool(), Methods: []api.Method{m}}
		refused(t, append([]api.Class{with}, world(good)...), want)
		refused(t, append(world(good), with), want)
		with.Super = "Main"
		with.Methods = []api.Method{good, m}
		refused(t, append([]api.Class{with}, world(good)...), want)
		refused(t, append(world(good), with), want)
		// Behind all that may be ahead of it.
		l := world(good)
		for len(l) < api.MaxClasses-1 {
			l = append(l, api.Class{Name: fmt.Sprint("C", len(l)), Pool: pool(), Methods: []api.Method{good}})
		}
		refused(t, append(l, with), want)
	}
}

func TestRefusedByTheFirstError(t *testing.T) {
	for one, want := range bad(t) {
		for other := range bad(t) {
			first, later := named(method(t, "A", 1, 2, one), "first"), named(method(t, "A", 1, 2, other), "later")
			refused(t, world(first, later), want)
			lone := func(name string, m api.Method) api.Class {
				return api.Class{Name: name, Pool: pool(), Methods: []api.Method{m}}
			}
			// In the order in which they are handed in, not of their names, nor of those above them.
			refused(t, append([]api.Class{lone("Z", first)}, world(later)...), want)
			refused(t, append(world(first), lone("Bad", later)), want)
			low := lone("Low", first)
			low.Super = "Up"
			refused(t, append([]api.Class{low, lone("Up", later)}, world()...), want)
		}
	}
}

// All that there may be: each instruction of each method is told, as locks.Method has it.
func TestTheMost(t *testing.T) {
	text := ""
	for at := 1; at < 30; at++ {
		text += fmt.Sprintf("%s; store %d;", []string{"null", "pushint 7", "new A"}[at%3], at)
	}
	text += strings.Repeat("null; pushint 7;", 32) + strings.Repeat("pop;", 64)
	m := method(t, "", 31, 64, text+"goto x; pop; x: ret")
	var l []api.Class
	for at := range api.MaxClasses {
		c := api.Class{Name: fmt.Sprint("C", at), Pool: pool()}
		for len(c.Methods) < api.MaxMethods {
			c.Methods = append(c.Methods, named(m, fmt.Sprint("m", len(c.Methods))))
		}
		l = append(l, c)
	}
	a := world()[1]
	l[3].Name, l[3].Fields, l[3].Methods = a.Name, a.Fields, a.Methods
	l[4].Name, l[5].Name = "B", "C"
	l[15].Name, l[15].Methods[11].Name, l[15].Methods[11].Code = "Main", "main", m.Code
	p := linked(t, l)
	maps := mapsOf(t, p)
	states, err := locks.Method(p, "Main", "main")
	want := tellStates(states)
	if err != api.OK || len(states) < 185 || strings.Count(want, "none") != 1 || strings.Count(want, "r") < 1000 {
		t.Fatalf("%d, %s", err, want)
	}
	for _, c := range l {
		for _, method := range c.Methods {
			if c.Name != "A" && tellAll(maps, c.Name, method.Name, len(m.Code)) != want {
				t.Errorf("P10.1: %s %s: %s", c.Name, method.Name, tellAll(maps, c.Name, method.Name, len(m.Code)))
			}
		}
	}
}

// A program without any class, as nobody linked it.
func TestEmptyProgram(t *testing.T) {
	maps := mapsOf(t, new(link.Program))
	for _, pc := range []int{-1, 0, 1} {
		if got := tell(maps, "Main", "main", pc) + tell(maps, "", "", pc) + tell(new(Maps), "Main", "main", pc); got != "nonenonenone" {
			t.Errorf("P10.1: %s", got)
		}
	}
}
