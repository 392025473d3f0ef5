package roots

import (
	"fmt"
	"slices"
	"strconv"
	"strings"
	"testing"

	"loom/api"
	"loom/code"
	"loom/link"
	"loom/locks"
)

// Types as words: void, int, cplx, arr, null, - (TTop), all others TRefs of classes.
func typeOf(word string) api.Type {
	if kind := slices.Index(strings.Fields("void int cplx arr ? null -"), word); kind >= 0 {
		return api.Type{Kind: kind}
	}
	return api.Type{Kind: api.TRef, Class: word}
}

func typesOf(words string) []api.Type {
	var list []api.Type
	for _, word := range strings.Fields(words) {
		list = append(list, typeOf(word))
	}
	return list
}

// Words of constants, by their places in the pool.
var constants = strings.Fields("7 2 -1 7i A B C Object Fault A.n A.o A.z A.l A.run() A.take() A.give() A.list()")

func pool() []api.Const {
	var list []api.Const
	for _, word := range constants {
		k := api.Const{Kind: api.CClass, Class: word}
		class, member, found := strings.Cut(word, ".")
		name, isMethod := strings.CutSuffix(member, "()")
		number, err := strconv.Atoi(word)
		switch {
		case err == nil:
			k = api.Const{Kind: api.CInt, Int: int64(number)}
		case word == "7i":
			k = api.Const{Kind: api.CCplx, Cplx: 7i}
		case found && isMethod:
			k = api.Const{Kind: api.CMethod, Class: class, Name: name}
		case found:
			k = api.Const{Kind: api.CField, Class: class, Name: member}
		}
		list = append(list, k)
	}
	return list
}

// method `it`: words of its parameters, how many locals it has behind these, its stack, its code.
// Code: instructions apart by semicolons; `x:` ahead of one names it; a constant by its word;
// `catch x y z 1`: a handler of x to y - 1 at z, of Depth 1, of all or (`catch x y z 1 B`) of a class.
func method(t testing.TB, params string, locals, stack int, text string) api.Method {
	t.Helper()
	m := api.Method{Name: "it", Params: typesOf(params), Stack: stack}
	m.Locals = 1 + len(m.Params) + locals
	labels := map[string]int{}
	var lines, catches []string
	for line := range strings.SplitSeq(text, ";") {
		parts := strings.Split(line, ":")
		for _, label := range parts[:len(parts)-1] {
			labels[strings.TrimSpace(label)] = len(lines)
		}
		line = strings.TrimSpace(parts[len(parts)-1])
		switch {
		case strings.HasPrefix(line, "catch "):
			catches = append(catches, line)
		case line != "":
			lines = append(lines, line)
		}
	}
	for _, line := range lines {
		m.Code = append(m.Code, instruction(t, line, labels))
	}
	for _, line := range catches {
		words := strings.Fields(line)
		h := api.Handler{From: labels[words[1]], To: labels[words[2]], Target: labels[words[3]], Class: -1}
		h.Depth, _ = strconv.Atoi(words[4])
		if len(words) > 5 {
			h.Class = slices.Index(constants, words[5])
		}
		m.Handlers = append(m.Handlers, h)
	}
	return m
}

func instruction(t testing.TB, line string, labels map[string]int) api.Ins {
	t.Helper()
	words := strings.Fields(line)
	for op := range api.Ops {
		if strings.Fields(code.Print(api.Ins{Op: op}))[0] != words[0] {
			continue
		}
		i := api.Ins{Op: op}
		switch code.Operand(op) {
		case 1:
			i.A, _ = strconv.Atoi(words[1])
		case 2:
			i.A = slices.Index(constants, words[1])
		case 3:
			at, there := labels[words[1]]
			if !there {
				t.Fatalf("no label: %s", line)
			}
			i.A = at
		}
		return i
	}
	t.Fatalf("no instruction: %s", line)
	return api.Ins{}
}

func named(m api.Method, name string) api.Method {
	m.Name = name
	return m
}

func giving(m api.Method, word string) api.Method {
	m.Ret = typeOf(word)
	return m
}

// plain: a method without anything to tell.
func plain(name string) api.Method {
	return api.Method{Name: name, Locals: 1, Code: []api.Ins{{Op: api.Ret}}}
}

// world: A, B and C below it, and Main with `main` and the methods.
func world(methods ...api.Method) []api.Class {
	stub := func(name, ret, params string) api.Method {
		m := api.Method{Name: name, Params: typesOf(params), Ret: typeOf(ret), Stack: 1, Code: []api.Ins{{Op: api.Null}, {Op: api.Throw}}}
		m.Locals = 1 + len(m.Params)
		return m
	}
	return []api.Class{
		{Name: "B", Super: "A"},
		{
			Name:    "A",
			Fields:  []api.Field{{Name: "n", Type: typeOf("int")}, {Name: "o", Type: typeOf("A")}, {Name: "z", Type: typeOf("cplx")}, {Name: "l", Type: typeOf("arr")}},
			Methods: []api.Method{plain("run"), stub("take", "void", "int cplx arr A"), stub("give", "A", ""), stub("list", "arr", "int")},
		},
		{Name: "C", Super: "A"},
		{Name: "Main", Pool: pool(), Methods: append([]api.Method{plain("main")}, methods...)},
	}
}

func linked(t testing.TB, l []api.Class) *link.Program {
	t.Helper()
	p, err := link.Link(l)
	if err != api.OK {
		t.Fatalf("Link: %d, of %+v", err, l[len(l)-1])
	}
	return p
}

// mapsOf: those of a program that must be accepted.
func mapsOf(t testing.TB, p *link.Program) *Maps {
	t.Helper()
	m, err := Of(p)
	if err != api.OK || m == nil {
		t.Fatalf("P10.1: Of: %v, %d", m, err)
	}
	return m
}

// letters: r of a reference, a dot of what is none.
func letters(list []bool) string {
	text := ""
	for _, is := range list {
		text += map[bool]string{true: "r", false: "."}[is]
	}
	return text
}

// tell: what is told of an instruction: the letters of its locals, a bar, those of its stack; none, if there is nothing. Depth must say the same.
func tell(m *Maps, class, method string, pc int) string {
	locals, stack, ok := m.At(class, method, pc)
	depth := m.Depth(class, method, pc)
	switch {
	case !ok && (len(locals) > 0 || len(stack) > 0):
		return fmt.Sprint("something beside false: ", locals, stack)
	case !ok && depth != -1 || ok && depth != len(stack):
		return fmt.Sprint("another depth: ", depth, stack, ok)
	case !ok:
		return "none"
	}
	return letters(locals) + "|" + letters(stack)
}

// tellAll: of the first so many instructions.
func tellAll(m *Maps, class, method string, count int) string {
	var words []string
	for pc := range count {
		words = append(words, tell(m, class, method, pc))
	}
	return strings.Join(words, " ")
}

// tellStates: what must be told of states, by their kinds.
func tellStates(states []api.State) string {
	of := func(list []api.Type) string {
		text := ""
		for _, t := range list {
			text += string("...rrr."[t.Kind])
		}
		return text
	}
	var words []string
	for _, s := range states {
		if s.Reached {
			words = append(words, of(s.Locals)+"|"+of(s.Stack))
		} else {
			words = append(words, "none")
		}
	}
	return strings.Join(words, " ")
}

// has: the method is accepted, and this is told of its instructions; nothing is told of those around them.
func has(t testing.TB, m api.Method, want string) {
	t.Helper()
	maps := mapsOf(t, linked(t, world(m)))
	if got := tellAll(maps, "Main", m.Name, len(m.Code)); got != strings.Join(strings.Fields(want), " ") {
		t.Errorf("P10.1: %s:\n%s, not\n%s", codeText(m), got, want)
	}
	if got := tell(maps, "Main", m.Name, -1) + tell(maps, "Main", m.Name, len(m.Code)); got != "nonenone" {
		t.Errorf("P10.1: %s: around it: %s", codeText(m), got)
	}
}

// refused: Of answers just the error of locks.All, which is this one, and no maps.
func refused(t testing.TB, l []api.Class, want api.Errno) {
	t.Helper()
	p := linked(t, l)
	m, err := Of(p)
	if m != nil || err != want || err != locks.All(p) {
		t.Errorf("P10.1: %v, %d, not %d, of %+v", m, err, want, l)
	}
}

func codeText(m api.Method) string {
	var words []string
	for at, i := range m.Code {
		words = append(words, strconv.Itoa(at)+": "+code.Print(i))
	}
	return fmt.Sprintf("%s %+v", strings.Join(words, "; "), m.Handlers)
}
