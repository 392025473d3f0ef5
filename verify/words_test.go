package verify

import (
	"fmt"
	"slices"
	"strconv"
	"strings"
	"testing"

	"loom/api"
	"loom/code"
	"loom/link"
)

// Types as words: void, int, cplx, arr, null, - (TTop), all others TRefs of classes.
func typeOf(word string) api.Type {
	if kind := slices.Index(strings.Fields("void int cplx arr ? null -"), word); kind >= 0 {
		return api.Type{Kind: kind}
	}
	return api.Type{Kind: api.TRef, Class: word}
}

func typesOf(words string) []api.Type {
	var list []api.Type
	for _, word := range strings.Fields(words) {
		list = append(list, typeOf(word))
	}
	return list
}

func wordOf(t api.Type) string {
	if t.Kind == api.TRef {
		return t.Class
	}
	if t.Class != "" {
		return "a class of what is no TRef"
	}
	return strings.Fields("void int cplx arr ? null -")[t.Kind]
}

func wordsOf(list []api.Type) string {
	var words []string
	for _, t := range list {
		words = append(words, wordOf(t))
	}
	return strings.Join(words, " ")
}

// tell: a state as the words of its locals, a bar, those of its stack; a dot, if it isn't reached.
func tell(s api.State) string {
	if len(s.Locks) > 0 {
		return "locks"
	}
	if !s.Reached {
		return "." + wordsOf(s.Locals) + wordsOf(s.Stack)
	}
	return strings.TrimSpace(wordsOf(s.Locals) + " | " + wordsOf(s.Stack))
}

// body of a method `it`: words of its parameters and its result, how many locals it has behind these, its stack, its code.
// Code: instructions apart by semicolons; `x:` ahead of one names it; constants are 7, 7i, A, A.n, A.run();
// `catch x y z A`: a handler of x to y - 1 at z (`*` for A: of all).
type body struct {
	params, ret   string
	locals, stack int
	code          string
}

// assembler: a method's code and pool while they come to be.
type assembler struct {
	t        testing.TB
	ops      map[string]int
	labels   map[string]int
	pool     []api.Const
	code     []api.Ins
	handlers []api.Handler
}

func assemble(t testing.TB, text string) *assembler {
	t.Helper()
	a := &assembler{t: t, ops: map[string]int{}, labels: map[string]int{}}
	for op := range api.Ops {
		a.ops[strings.Fields(code.Print(api.Ins{Op: op}))[0]] = op
	}
	var lines, catches []string
	for _, line := range strings.Split(text, ";") {
		line = strings.TrimSpace(line)
		for {
			label, rest, found := strings.Cut(line, ":")
			if !found {
				break
			}
			a.labels[strings.TrimSpace(label)] = len(lines)
			line = strings.TrimSpace(rest)
		}
		switch {
		case strings.HasPrefix(line, "catch "):
			catches = append(catches, line)
		case line != "":
			lines = append(lines, line)
		}
	}
	for _, line := range lines {
		a.code = append(a.code, a.instruction(line))
	}
	for _, line := range catches {
		a.handlers = append(a.handlers, a.handler(line))
	}
	return a
}

func (a *assembler) instruction(line string) api.Ins {
	words := strings.Fields(line)
	op, there := a.ops[words[0]]
	if !there {
		a.t.Fatalf("no instruction: %s", line)
	}
	i := api.Ins{Op: op}
	switch code.Operand(op) {
	case 1:
		i.A, _ = strconv.Atoi(words[1])
	case 2:
		i.A = a.constant(words[1])
	case 3:
		i.A = a.label(words[1])
	}
	return i
}

func (a *assembler) handler(line string) api.Handler {
	words := strings.Fields(line)
	h := api.Handler{From: a.label(words[1]), To: a.label(words[2]), Target: a.label(words[3]), Class: -1}
	if words[4] != "*" {
		h.Class = a.constant(words[4])
	}
	return h
}

func (a *assembler) label(name string) int {
	at, there := a.labels[name]
	if !there {
		a.t.Fatalf("no label %s", name)
	}
	return at
}

// constant: its place in the pool, where it is put, if it isn't there.
func (a *assembler) constant(word string) int {
	k := api.Const{Kind: api.CClass, Class: word}
	class, member, found := strings.Cut(word, ".")
	name, isMethod := strings.CutSuffix(member, "()")
	switch {
	case word == "7":
		k = api.Const{Kind: api.CInt, Int: 7}
	case word == "7i":
		k = api.Const{Kind: api.CCplx, Cplx: 7i}
	case found && isMethod:
		k = api.Const{Kind: api.CMethod, Class: class, Name: name}
	case found:
		k = api.Const{Kind: api.CField, Class: class, Name: member}
	}
	at := slices.Index(a.pool, k)
	if at < 0 {
		at = len(a.pool)
		a.pool = append(a.pool, k)
	}
	return at
}

// method: `it`, and the pool that its code asks for.
func (b body) method(t testing.TB) (api.Method, []api.Const) {
	t.Helper()
	a := assemble(t, b.code)
	m := api.Method{Name: "it", Params: typesOf(b.params), Stack: b.stack, Code: a.code, Handlers: a.handlers}
	m.Locals = 1 + len(m.Params) + b.locals
	if b.ret != "" {
		m.Ret = typeOf(b.ret)
	}
	return m, a.pool
}

func stub(name, ret, params string) api.Method {
	m := api.Method{Name: name, Params: typesOf(params), Ret: typeOf(ret), Stack: 1}
	m.Locals = 1 + len(m.Params)
	m.Code = []api.Ins{{Op: api.Null}, {Op: api.Throw}}
	return m
}

func fieldOf(name, word string) api.Field { return api.Field{Name: name, Type: typeOf(word)} }

// world: B and C below A, D below B, E below Fault, and a Main with the methods `main` and m.
func world(pool []api.Const, m api.Method) []api.Class {
	return []api.Class{
		{Name: "D", Super: "B"},
		{
			Name:    "A",
			Fields:  []api.Field{fieldOf("n", "int"), fieldOf("o", "A"), fieldOf("z", "cplx"), fieldOf("l", "arr")},
			Methods: []api.Method{stub("add", "int", "int int"), stub("run", "void", ""), stub("mix", "C", "int cplx arr B"), stub("say", "int", ""), stub("give", "void", "int")},
		},
		{Name: "B", Super: "A", Fields: []api.Field{fieldOf("b", "B")}, Methods: []api.Method{stub("run", "void", ""), stub("own", "D", "")}},
		{Name: "C", Super: "A"},
		{Name: "E", Super: "Fault"},
		{Name: "Main", Pool: pool, Methods: []api.Method{{Name: "main", Locals: 1, Code: []api.Ins{{Op: api.Ret}}}, m}},
	}
}

func linked(t testing.TB, l []api.Class) *link.Program {
	t.Helper()
	p, err := link.Link(l)
	if err != api.OK {
		t.Fatalf("Link: %d, of %+v", err, l[len(l)-1])
	}
	return p
}

// isRefusal: whether err is one of the three that tell of what is refused.
func isRefusal(err api.Errno) bool {
	return err == api.ErrType || err == api.ErrStack || err == api.ErrUnset
}

// ask: what Method answers of it; All must answer alike, and beside an error there are no states.
func (b body) ask(t testing.TB) ([]api.State, api.Errno) {
	t.Helper()
	m, pool := b.method(t)
	return askOf(t, linked(t, world(pool, m)), len(m.Code))
}

func askOf(t testing.TB, p *link.Program, instructions int) ([]api.State, api.Errno) {
	t.Helper()
	states, err := Method(p, "Main", "it")
	if all := All(p); all != err {
		t.Errorf("P8.3: All: %d, Method: %d", all, err)
	}
	if err == api.OK && len(states) != instructions || err != api.OK && states != nil {
		t.Errorf("P8.1: %d states of %d instructions beside %d", len(states), instructions, err)
	}
	if err != api.OK && !isRefusal(err) {
		t.Errorf("P8.1: error %d", err)
	}
	return states, err
}

func (b body) accepted(t testing.TB) []api.State {
	t.Helper()
	states, err := b.ask(t)
	if err != api.OK {
		t.Fatalf("P8.1: %+v: error %d", b, err)
	}
	return states
}

func (b body) refused(t testing.TB) {
	t.Helper()
	if states, err := b.ask(t); err == api.OK {
		t.Errorf("P8.1: %+v is accepted: %s", b, texts(states))
	}
}

// has: the states, by tell, one a line.
func (b body) has(t testing.TB, want string) {
	t.Helper()
	var lines []string
	for _, line := range strings.Split(strings.TrimSpace(want), "\n") {
		lines = append(lines, strings.TrimSpace(line))
	}
	if got := texts(b.accepted(t)); got != strings.Join(lines, "\n") {
		t.Errorf("P8.1: %+v:\n%s", b, got)
	}
}

func texts(states []api.State) string {
	var lines []string
	for _, s := range states {
		lines = append(lines, tell(s))
	}
	return strings.Join(lines, "\n")
}

// show: a text of all that a value has; a nil list and an empty one are the same.
func show(values ...any) string { return fmt.Sprintf("%+v", values) }
