package verify

import (
	"math"
	"slices"
	"strings"
	"testing"

	"loom/api"
)

func TestEntry(t *testing.T) {
	for _, c := range []struct {
		class, params string
		locals        int
		want          string
	}{
		{"Main", "", 1, "Main |"},
		{"Main", "", 4, "Main - - - |"},
		{"A", "int", 2, "A int |"},
		{"A", "cplx", 4, "A cplx - - |"},
		{"Q", "int cplx arr B A Q", 7, "Q int cplx arr B A Q |"},
		{"Q", "arr arr B int Object cplx", 9, "Q arr arr B int Object cplx - - |"},
		{"Fault", "Fault", 32, "Fault Fault" + strings.Repeat(" -", 30) + " |"},
		// No class file has such a method; the receiver and the parameters are there all the same.
		{"A", "int", 1, "A int |"}, {"A", "int", 0, "A int |"}, {"A", "", 0, "A |"}, {"A", "B", -1, "A B |"}, {"A", "B", math.MinInt, "A B |"},
		{"A", "int", 1000, "A int" + strings.Repeat(" -", 998) + " |"},
	} {
		m := api.Method{Name: "m", Params: typesOf(c.params), Ret: typeOf("int"), Locals: c.locals, Stack: 3, Code: []api.Ins{{Op: api.Null}}, Handlers: []api.Handler{{To: 1}}}
		if s := Entry(c.class, m); !s.Reached || tell(s) != c.want || len(s.Stack) > 0 || len(s.Locks) > 0 {
			t.Errorf("P8.1: Entry(%q, %v of %d): %+v", c.class, m.Params, c.locals, s)
		}
	}
	if s := Entry("", api.Method{}); show(s) != show(api.State{Reached: true, Locals: []api.Type{{Kind: api.TRef}}}) {
		t.Errorf("P8.1: Entry of nothing: %+v", s)
	}
	strange := []api.Type{{Kind: -5, Class: "\x00"}, {Kind: 99}, {Kind: api.TVoid, Class: "x"}}
	if s := Entry(strings.Repeat("é", 99), api.Method{Params: strange, Locals: 5}); !slices.Equal(s.Locals[1:4], strange) || s.Locals[4] != typeOf("-") || len(s.Locals) != 5 {
		t.Errorf("P8.1: Entry of strange types: %+v", s)
	}
	// More than an answer may have: nothing is promised but that it comes back.
	Entry("A", api.Method{Locals: math.MaxInt})
}

func TestInstructionNoughtBeginsWithEntry(t *testing.T) {
	for _, b := range []body{{}, {locals: 3}, {params: "int B"}, {params: "int cplx arr B A Main", locals: 25}} {
		b.code = "ret"
		m, _ := b.method(t)
		if states := b.accepted(t); show(states[0]) != show(Entry("Main", m)) {
			t.Errorf("P8.1: %+v: %+v", b, states[0])
		}
	}
}

func TestMethodOfWhatIsNotThere(t *testing.T) {
	m, pool := body{code: "ret"}.method(t)
	l := world(pool, m)
	l = append(l, api.Class{Name: "Lower", Super: "Main"})
	p := linked(t, l)
	for _, c := range [][2]string{
		// No such class, no such method, one of an ancestor, of a class below, of another class.
		{"X", "it"}, {"", ""}, {"main", "main"}, {"Main ", "main"}, {"Main", ""}, {"Main", "Main"}, {"Main", "It"}, {"Main", "it "}, {"Main", "run"}, {"A", "main"}, {"A", "n"},
		{"Lower", "it"}, {"Lower", "main"}, {"D", "run"}, {"D", "own"}, {"C", "add"}, {"B", "add"}, {"A", "own"}, {"Object", "run"}, {"Fault", "code"}, {"Object", ""}, {"Fault", ""}, {"E", "code"},
		{strings.Repeat("A", 1000), "run"}, {"A", strings.Repeat("run", 1000)}, {"\x00", "\xff"},
	} {
		if states, err := Method(p, c[0], c[1]); err != api.ErrMember || states != nil {
			t.Errorf("P8.1: Method(%q, %q): %v, %d", c[0], c[1], states, err)
		}
	}
	for _, c := range [][2]string{{"Main", "it"}, {"Main", "main"}, {"A", "run"}, {"B", "run"}, {"B", "own"}, {"A", "mix"}} {
		if states, err := Method(p, c[0], c[1]); err != api.OK || len(states) == 0 {
			t.Errorf("P8.1: Method(%q, %q): %v, %d", c[0], c[1], states, err)
		}
	}
}

// A class's own method, its own pool, itself as receiver: another class has a method of the name with another code.
func TestMethodIsThatOfTheClass(t *testing.T) {
	m := api.Method{Name: "go", Locals: 1, Stack: 1, Code: []api.Ins{{Op: api.New}, {Op: api.Throw}}}
	n := m
	n.Locals, n.Stack, n.Code = 2, 2, []api.Ins{{Op: api.Load}, {Op: api.PushInt}, {Op: api.Ret}}
	main := api.Method{Name: "main", Locals: 1, Code: []api.Ins{{Op: api.Ret}}}
	p := linked(t, []api.Class{
		{Name: "Lower", Super: "Upper", Pool: []api.Const{{Kind: api.CInt}}, Methods: []api.Method{n}},
		{Name: "Main", Methods: []api.Method{main}},
		{Name: "Upper", Pool: []api.Const{{Kind: api.CClass, Class: "Main"}}, Methods: []api.Method{m}},
	})
	for class, want := range map[string]string{"Lower": "Lower - |\nLower - | Lower\nLower - | Lower int", "Upper": "Upper |\nUpper | Main"} {
		states, err := Method(p, class, "go")
		if err != api.OK || texts(states) != want {
			t.Errorf("P8.1: Method(%q): %d, %s", class, err, texts(states))
		}
	}
	if err := All(p); err != api.OK {
		t.Errorf("P8.3: %d", err)
	}
}

// Bad methods, each with the error that Method tells of it.
func badMethods() []api.Method {
	return []api.Method{
		{Name: "short", Locals: 1, Stack: 1, Code: []api.Ins{{Op: api.Pop}, {Op: api.Ret}}},
		{Name: "unset", Locals: 2, Stack: 1, Code: []api.Ins{{Op: api.Load, A: 1}, {Op: api.Ret}}},
		{Name: "wrong", Locals: 1, Stack: 1, Code: []api.Ins{{Op: api.Null}, {Op: api.Out}, {Op: api.Ret}}},
	}
}

func TestAll(t *testing.T) {
	good := api.Method{Name: "main", Locals: 1, Code: []api.Ins{{Op: api.Ret}}}
	other := good
	other.Name = "other"
	for _, bad := range badMethods() {
		alone := linked(t, []api.Class{{Name: "Main", Methods: []api.Method{good, bad}}})
		_, want := Method(alone, "Main", bad.Name)
		if !isRefusal(want) {
			t.Fatalf("P8.1: %s: %d", bad.Name, want)
		}
		for _, l := range [][]api.Class{
			{{Name: "Main", Methods: []api.Method{good, bad}}},
			{{Name: "Main", Methods: []api.Method{bad, good}}},
			{{Name: "Main", Methods: []api.Method{other, bad, good}}},
			{{Name: "A", Methods: []api.Method{bad}}, {Name: "Main", Methods: []api.Method{good}}},
			{{Name: "Main", Methods: []api.Method{good}}, {Name: "A"}, {Name: "B", Super: "A", Methods: []api.Method{other, bad}}},
			{{Name: "Main", Super: "A", Methods: []api.Method{good}}, {Name: "A", Methods: []api.Method{other, bad}}},
		} {
			if err := All(linked(t, l)); err != want {
				t.Errorf("P8.3: %v: %d, not %d", l, err, want)
			}
		}
	}
	for _, l := range [][]api.Class{
		{{Name: "Main", Methods: []api.Method{good}}}, {{Name: "Main", Super: "A"}, {Name: "A", Methods: []api.Method{other, good}}, {Name: "B"}},
	} {
		if err := All(linked(t, l)); err != api.OK {
			t.Errorf("P8.3: %v: %d", l, err)
		}
	}
}

func TestAllTellsTheFirstError(t *testing.T) {
	good := api.Method{Name: "main", Locals: 1, Code: []api.Ins{{Op: api.Ret}}}
	for _, first := range badMethods() {
		for _, later := range badMethods() {
			if first.Name == later.Name {
				continue
			}
			one := linked(t, []api.Class{{Name: "Main", Methods: []api.Method{good, first, later}}})
			_, want := Method(one, "Main", first.Name)
			if _, other := Method(one, "Main", later.Name); want == other {
				t.Fatalf("%s and %s are told alike", first.Name, later.Name)
			}
			// In the order of classes as they were handed in, whatever stands above what, and of methods, whatever their names.
			for _, p := range []struct{ l []api.Class }{
				{[]api.Class{{Name: "Main", Methods: []api.Method{good, first, later}}}},
				{[]api.Class{{Name: "Z", Methods: []api.Method{first}}, {Name: "Main", Methods: []api.Method{good, later}}}},
				{[]api.Class{{Name: "Z", Super: "A", Methods: []api.Method{first}}, {Name: "A", Methods: []api.Method{later}}, {Name: "Main", Methods: []api.Method{good}}}},
				{[]api.Class{{Name: "Main", Methods: []api.Method{first, good}}, {Name: "A", Methods: []api.Method{later}}}},
			} {
				if err := All(linked(t, p.l)); err != want {
					t.Errorf("P8.3: %v: %d, not %d", p.l, err, want)
				}
			}
		}
	}
}
