package locks

import (
	"strings"
	"testing"

	"loom/api"
	"loom/link"
	"loom/verify"
)

func TestMethodOfWhatIsNotThere(t *testing.T) {
	l := append(world(write(t, "enter 1; exit 1; ret"), named(write(t, "enter 1; ret"), "bad")), api.Class{Name: "Lower", Super: "Main"})
	p := linked(t, l)
	for _, c := range [][2]string{
		// No such class; none of that name; one of an ancestor alone, of a class below, of another class.
		{"X", "it"}, {"", ""}, {"", "it"}, {"main", "main"}, {"Main ", "it"}, {"X", "bad"},
		{"Main", ""}, {"Main", "It"}, {"Main", "it "}, {"Main", "Main"}, {"A", "n"}, {"Object", ""}, {"Fault", "code"},
		{"Lower", "it"}, {"Lower", "main"}, {"Lower", "bad"}, {"B", "run"}, {"Main", "run"}, {"A", "it"}, {"Object", "run"}, {"Fault", "it"},
		{strings.Repeat("A", 1000), "run"}, {"A", strings.Repeat("run", 1000)}, {"\x00", "\xff"},
	} {
		if states, err := Method(p, c[0], c[1]); err != api.ErrMember || states != nil {
			t.Errorf("P9.1: Method(%q, %q): %v, %d", c[0], c[1], states, err)
		}
	}
	for class, want := range map[string]string{"Main it": "- 1 -", "Main main": "-", "A run": "- 0 -"} {
		words := strings.Fields(class)
		if states, err := Method(p, words[0], words[1]); err != api.OK || texts(states) != want {
			t.Errorf("P9.1: Method(%s): %s, %d", class, texts(states), err)
		}
	}
}

// A class's own method, not that of the class above, which has another code.
func TestMethodIsThatOfTheClass(t *testing.T) {
	upper, lower := write(t, "enter 1; exit 1; ret"), write(t, "nop; enter 2; enter 3; exit 3; exit 2; ret")
	for _, c := range []struct {
		upper, lower   api.Method
		above, below   string
		errUp, errDown api.Errno
	}{
		{upper, lower, "- 1 -", "- - 2 2.3 2 -", api.OK, api.OK},
		{lower, upper, "- - 2 2.3 2 -", "- 1 -", api.OK, api.OK},
		{write(t, "enter 1; ret"), lower, "", "- - 2 2.3 2 -", api.ErrLock, api.OK},
		{upper, write(t, "exit 1; ret"), "- 1 -", "", api.OK, api.ErrLock},
		{write(t, "enter 1; ret"), write(t, "pop; ret"), "", "", api.ErrLock, api.ErrStack},
		{write(t, "load 7; ret"), write(t, "enter 1; ret"), "", "", api.ErrUnset, api.ErrLock},
	} {
		l := append([]api.Class{{Name: "Low", Super: "Up", Methods: []api.Method{c.lower}}, {Name: "Up", Methods: []api.Method{c.upper}}}, world()...)
		p := linked(t, l)
		states, err := Method(p, "Up", "it")
		if texts(states) != c.above || err != c.errUp {
			t.Errorf("P9.1: above: %s, %d", texts(states), err)
		}
		states, err = Method(p, "Low", "it")
		if texts(states) != c.below || err != c.errDown {
			t.Errorf("P9.1: below: %s, %d", texts(states), err)
		}
		first := c.errDown
		if first == api.OK {
			first = c.errUp
		}
		if err := All(p); err != first {
			t.Errorf("P9.2: %d, not %d", err, first)
		}
	}
}

// verifyRefuses: codes that verify refuses, with the error that it tells.
func verifyRefuses() map[string]api.Errno {
	return map[string]api.Errno{
		"pop; ret":                                 api.ErrStack,
		"null; null; null; ret":                    api.ErrStack,
		"pushint 7; ifone x; null; x: ret":         api.ErrStack,
		"load 7; ret":                              api.ErrUnset,
		"enter 7; exit 7; ret":                     api.ErrUnset,
		"null; out; ret":                           api.ErrType,
		"pushint 7; store 1; enter 1; exit 1; ret": api.ErrType,
		"pushint 7; retval":                        api.ErrType,
	}
}

func TestVerifysErrorIsToldFirst(t *testing.T) {
	for text, want := range verifyRefuses() {
		for _, wrapped := range []string{
			text,
			// The locks don't fit either: ahead of what verify refuses, and behind it.
			"exit 1;" + text,
			"enter 1; enter 1;" + text,
			"enter 2;" + text,
			text + "; end: exit 1; ret",
			"x0: nop; x1: nop; goto on; h: pop; ret; on:" + text + "; catch x0 x1 h 1",
		} {
			m := write(t, wrapped)
			if states, err := ask(t, m); err != want || states != nil {
				t.Errorf("P9.1: %s: %d, not %d: %v", wrapped, err, want, states)
			}
		}
	}
	// What verify refuses stands where locks fit no more long before.
	m := write(t, "enter 1; exit 2; "+strings.Repeat("nop;", 190)+"add; ret")
	if _, err := ask(t, m); err != api.ErrStack {
		t.Errorf("P9.1: %d", err)
	}
	if _, err := ask(t, giving(write(t, "enter 1; ret"))); err != api.ErrType {
		t.Errorf("P9.1: %d", err)
	}
}

// The states' types are verify's: this method's lists have something of all.
func TestStatesAreVerifys(t *testing.T) {
	m := write(t, "new B; store 1; enter 1; x: load 2; pushint 7; ifone y; pop; null; y: pop; exit 1; goto end; add; z: pop; exit 1; end: ret; catch x y z 1 Fault")
	m.Stack = 3
	states, err := ask(t, m)
	if err != api.OK || texts(states) != "- - - 1 1 1 1 1 1 1 - . 1 1 -" {
		t.Fatalf("P9.1: %d, %s", err, texts(states))
	}
	if len(states) != len(m.Code) || len(states[5].Stack) != 2 || states[12].Stack[0].Class != "Fault" || states[2].Locals[1].Class != "B" || len(states[0].Locals) != 8 || !states[0].Reached || states[11].Reached {
		t.Errorf("P9.1: %+v", states)
	}
	for _, c := range []string{"ret", "enter 0; exit 0; ret", "load 1; throw"} {
		m := write(t, c)
		p := linked(t, world(m))
		typed, _ := verify.Method(p, "Main", "it")
		states, err := Method(p, "Main", "it")
		if err != api.OK || show(withoutLocks(states)) != show(typed) {
			t.Errorf("P9.1: %s: %d, %+v, not %+v", c, err, states, typed)
		}
	}
}

// bad: methods that are refused, by their errors.
func bad(t testing.TB) map[api.Errno]api.Method {
	return map[api.Errno]api.Method{
		api.ErrStack: named(write(t, "pop; ret"), "short"),
		api.ErrUnset: named(write(t, "load 7; ret"), "unset"),
		api.ErrType:  named(write(t, "null; out; ret"), "wrong"),
		api.ErrLock:  named(write(t, "enter 1; ret"), "kept"),
	}
}

func TestAllWithoutAnError(t *testing.T) {
	good := write(t, "enter 1; exit 1; ret")
	for _, l := range [][]api.Class{
		world(), world(good), world(good, named(good, "other")),
		{{Name: "Main", Super: "A"}, {Name: "A", Methods: []api.Method{good, mainMethod()}}, {Name: "C"}},
		{{Name: "Main", Methods: []api.Method{mainMethod()}}},
	} {
		if err := All(linked(t, l)); err != api.OK {
			t.Errorf("P9.2: %d", err)
		}
	}
}

func TestAllWithOneError(t *testing.T) {
	main, good := mainMethod(), write(t, "enter 1; exit 1; ret")
	for want, m := range bad(t) {
		for at, l := range [][]api.Class{
			{{Name: "A"}, {Name: "Main", Methods: []api.Method{m, main}}},
			{{Name: "A"}, {Name: "Main", Methods: []api.Method{main, good, m}}},
			{{Name: "A", Methods: []api.Method{m}}, {Name: "Main", Methods: []api.Method{main, good}}},
			{{Name: "Main", Methods: []api.Method{main, good}}, {Name: "A"}, {Name: "B", Super: "A", Methods: []api.Method{good, m}}},
			{{Name: "Main", Super: "A", Methods: []api.Method{main}}, {Name: "A", Methods: []api.Method{good, m}}},
		} {
			if err := All(linked(t, l)); err != want {
				t.Errorf("P9.2: row %d: %d, not %d", at, err, want)
			}
		}
	}
}

// In the order of classes as they were handed in and of their methods: neither verify's errors nor those of locks go ahead of the others.
func TestAllTellsTheFirstError(t *testing.T) {
	main := mainMethod()
	for want, first := range bad(t) {
		for _, later := range bad(t) {
			if first.Name == later.Name {
				continue
			}
			for at, l := range [][]api.Class{
				{{Name: "A"}, {Name: "Main", Methods: []api.Method{main, first, later}}},
				{{Name: "Z", Methods: []api.Method{first}}, {Name: "A"}, {Name: "Main", Methods: []api.Method{main, later}}},
				{{Name: "Z", Super: "A", Methods: []api.Method{first}}, {Name: "A", Methods: []api.Method{later}}, {Name: "Main", Methods: []api.Method{main}}},
				{{Name: "Main", Super: "A", Methods: []api.Method{first, main}}, {Name: "A", Methods: []api.Method{later}}},
				{{Name: "Main", Methods: []api.Method{main}}, {Name: "C"}, {Name: "A", Methods: []api.Method{first}}, {Name: "B", Methods: []api.Method{later}}},
			} {
				if err := All(linked(t, l)); err != want {
					t.Errorf("P9.2: row %d: %s ahead of %s: %d, not %d", at, first.Name, later.Name, err, want)
				}
			}
		}
	}
}

// As many classes and methods as there may be; the error stands in the last one of all.
func TestAllOfTheMost(t *testing.T) {
	good := write(t, "enter 1; exit 1; ret")
	l := []api.Class{{Name: "Main"}, {Name: "A"}}
	for len(l) < api.MaxClasses {
		l = append(l, api.Class{Name: "C" + string(rune('a'+len(l)))})
	}
	for at := range l {
		for len(l[at].Methods) < api.MaxMethods {
			l[at].Methods = append(l[at].Methods, named(good, "m"+string(rune('a'+len(l[at].Methods)))))
		}
	}
	l[0].Methods[0] = mainMethod()
	if err := All(linked(t, l)); err != api.OK {
		t.Errorf("P9.2: %d", err)
	}
	last := &l[len(l)-1].Methods[api.MaxMethods-1]
	*last = named(write(t, "enter 1; ret"), last.Name)
	if err := All(linked(t, l)); err != api.ErrLock {
		t.Errorf("P9.2: %d", err)
	}
}

// A program without any class, as nobody linked it.
func TestEmptyProgram(t *testing.T) {
	p := new(link.Program)
	if states, err := Method(p, "Main", "main"); err != api.ErrMember || states != nil || All(p) != api.OK {
		t.Errorf("P9.1: %v, %d, %d", states, err, All(p))
	}
}
