package locks

import (
	"fmt"
	"slices"
	"strconv"
	"strings"
	"testing"

	"loom/api"
	"loom/code"
	"loom/link"
	"loom/verify"
)

// Types of which the tests' methods are made.
var (
	void = api.Type{Kind: api.TVoid}
	num  = api.Type{Kind: api.TInt}
	refA = api.Type{Kind: api.TRef, Class: "A"}
)

// pool of all tests' methods.
func pool() []api.Const {
	return []api.Const{{Kind: api.CInt, Int: 7}, {Kind: api.CClass, Class: "A"}, {Kind: api.CClass, Class: "B"}, {Kind: api.CClass, Class: "Fault"}, {Kind: api.CMethod, Class: "A", Name: "run"}, {Kind: api.CField, Class: "A", Name: "n"}}
}

// Words of constants, by their places in the pool.
var constants = strings.Fields("7 A B Fault A.run() A.n")

// write: a method `it` of that code: locals 0 to 6 are objects from its beginning on, 7 isn't set, its stack has two places.
// Code: instructions apart by semicolons; `x:` ahead of one names it; a constant by its word;
// `catch x y z 1`: a handler of x to y - 1 at z, of Depth 1, of all or (`catch x y z 1 B`) of a class.
func write(t testing.TB, text string) api.Method {
	t.Helper()
	m := api.Method{Name: "it", Params: slices.Repeat([]api.Type{refA}, 6), Ret: void, Locals: 8, Stack: 2}
	labels := map[string]int{}
	var lines, catches []string
	for line := range strings.SplitSeq(text, ";") {
		parts := strings.Split(line, ":")
		for _, label := range parts[:len(parts)-1] {
			labels[strings.TrimSpace(label)] = len(lines)
		}
		line = strings.TrimSpace(parts[len(parts)-1])
		switch {
		case strings.HasPrefix(line, "catch "):
			catches = append(catches, line)
		case line != "":
			lines = append(lines, line)
		}
	}
	for _, line := range lines {
		m.Code = append(m.Code, instruction(t, line, labels))
	}
	for _, line := range catches {
		words := strings.Fields(line)
		h := api.Handler{From: labels[words[1]], To: labels[words[2]], Target: labels[words[3]], Class: -1}
		h.Depth, _ = strconv.Atoi(words[4])
		if len(words) > 5 {
			h.Class = slices.Index(constants, words[5])
		}
		m.Handlers = append(m.Handlers, h)
	}
	return m
}

func instruction(t testing.TB, line string, labels map[string]int) api.Ins {
	t.Helper()
	words := strings.Fields(line)
	for op := range api.Ops {
		if strings.Fields(code.Print(api.Ins{Op: op}))[0] != words[0] {
			continue
		}
		i := api.Ins{Op: op}
		switch code.Operand(op) {
		case 1:
			i.A, _ = strconv.Atoi(words[1])
		case 2:
			i.A = slices.Index(constants, words[1])
		case 3:
			at, there := labels[words[1]]
			if !there {
				t.Fatalf("no label: %s", line)
			}
			i.A = at
		}
		return i
	}
	t.Fatalf("no instruction: %s", line)
	return api.Ins{}
}

// giving: the method with an integer as its result.
func giving(m api.Method) api.Method {
	m.Ret = num
	return m
}

func named(m api.Method, name string) api.Method {
	m.Name = name
	return m
}

// mainMethod: one that Main must have.
func mainMethod() api.Method {
	return api.Method{Name: "main", Locals: 1, Code: []api.Ins{{Op: api.Ret}}}
}

// world: A, B below it, and Main with `main` and the methods.
func world(methods ...api.Method) []api.Class {
	run := api.Method{Name: "run", Locals: 1, Code: []api.Ins{{Op: api.Enter}, {Op: api.Exit}, {Op: api.Ret}}}
	return []api.Class{
		{Name: "B", Super: "A"},
		{Name: "A", Fields: []api.Field{{Name: "n", Type: num}}, Methods: []api.Method{run}},
		{Name: "Main", Pool: pool(), Methods: append([]api.Method{mainMethod()}, methods...)},
	}
}

func linked(t testing.TB, l []api.Class) *link.Program {
	t.Helper()
	p, err := link.Link(l)
	if err != api.OK {
		t.Fatalf("Link: %d, of %+v", err, l[len(l)-1])
	}
	return p
}

// ask: what Method answers of m in the world. All must answer alike; beside an error there are no states; beside none they are verify's, but for Locks.
func ask(t testing.TB, m api.Method) ([]api.State, api.Errno) {
	t.Helper()
	p := linked(t, world(m))
	states, err := Method(p, "Main", m.Name)
	if all := All(p); all != err {
		t.Errorf("P9.2: All: %d, Method: %d", all, err)
	}
	typed, refusal := verify.Method(p, "Main", m.Name)
	if refusal != api.OK && err != refusal || refusal == api.OK && err != api.OK && err != api.ErrLock {
		t.Errorf("P9.1: error %d, verify's is %d", err, refusal)
	}
	if err != api.OK {
		if states != nil {
			t.Errorf("P9.1: states beside error %d: %v", err, states)
		}
		return nil, err
	}
	if show(withoutLocks(states)) != show(typed) {
		t.Errorf("P9.1: states %+v, verify's are %+v", states, typed)
	}
	return states, err
}

func withoutLocks(states []api.State) []api.State {
	states = slices.Clone(states)
	for at := range states {
		states[at].Locks = nil
	}
	return states
}

// texts: the locks of all states: of one 1.2, of one without -; a dot of one that isn't reached.
func texts(states []api.State) string {
	var words []string
	for _, s := range states {
		word := "-"
		if len(s.Locks) > 0 {
			word = strings.ReplaceAll(strings.Trim(fmt.Sprint(s.Locks), "[]"), " ", ".")
		}
		if !s.Reached {
			word = "."
			if show(s) != show(api.State{}) {
				word = "something of what isn't reached"
			}
		}
		words = append(words, word)
	}
	return strings.Join(words, " ")
}

// has: the method of that code is accepted, with these locks by texts.
func has(t testing.TB, text, want string) {
	t.Helper()
	methodHas(t, write(t, text), want)
}

func methodHas(t testing.TB, m api.Method, want string) {
	t.Helper()
	states, err := ask(t, m)
	if got := texts(states); err != api.OK || got != strings.Join(strings.Fields(want), " ") {
		t.Errorf("P9.1: %s: error %d, %s, not %s", codeText(m), err, got, want)
	}
}

// unfit: the method of that code is refused for its locks.
func unfit(t testing.TB, text string) {
	t.Helper()
	methodUnfit(t, write(t, text))
}

func methodUnfit(t testing.TB, m api.Method) {
	t.Helper()
	if states, err := ask(t, m); err != api.ErrLock {
		t.Errorf("P9.1: %s: error %d, %s", codeText(m), err, texts(states))
	}
}

func codeText(m api.Method) string {
	var words []string
	for at, i := range m.Code {
		words = append(words, strconv.Itoa(at)+": "+code.Print(i))
	}
	return fmt.Sprintf("%s %+v", strings.Join(words, "; "), m.Handlers)
}

// show: a text of all that a value has; a nil list and an empty one are the same.
func show(values ...any) string { return fmt.Sprintf("%+v", values) }
