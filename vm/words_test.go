package vm

import (
	"fmt"
	"slices"
	"strconv"
	"strings"
	"testing"

	"loom/api"
	"loom/class"
	"loom/code"
)

// Types as words: void, int, cplx, arr; all others are TRefs of classes.
func typeOf(word string) api.Type {
	if kind := slices.Index(strings.Fields("void int cplx arr"), word); kind >= 0 {
		return api.Type{Kind: kind}
	}
	return api.Type{Kind: api.TRef, Class: word}
}

// classesOf: classes, as a text tells them line by line; lines behind a method's first one may be indented:
//
//	B < A: n int, v int volatile     a class, the one above it, its fields
//	B.f(int A) cplx: load 1; ..      a method of it
//
// Code: instructions apart by semicolons; `x:` ahead of one names it; constants and classes by their words;
// `catch x y z 1 B`: a handler of x to y - 1 at z, of Depth 1, of all or (as here) of a class.
func classesOf(t testing.TB, text string) []api.Class {
	t.Helper()
	var list []api.Class
	for line := range strings.SplitSeq(strings.ReplaceAll(text, "\n\t", " "), "\n") {
		head, _, _ := strings.Cut(line, ":")
		switch {
		case strings.TrimSpace(line) == "":
		case strings.Contains(head, "("):
			addMethod(t, list, line)
		default:
			list = append(list, classOf(line))
		}
	}
	return list
}

func classOf(line string) api.Class {
	head, fields, _ := strings.Cut(line, ":")
	name, super, _ := strings.Cut(head, "<")
	c := api.Class{Name: strings.TrimSpace(name), Super: strings.TrimSpace(super)}
	for field := range strings.SplitSeq(fields, ",") {
		if words := strings.Fields(field); len(words) > 0 {
			c.Fields = append(c.Fields, api.Field{Name: words[0], Type: typeOf(words[1]), Volatile: len(words) > 2})
		}
	}
	return c
}

// addMethod: to the class that the line names.
func addMethod(t testing.TB, list []api.Class, line string) {
	t.Helper()
	head, text, _ := strings.Cut(line, ":")
	name, rest, _ := strings.Cut(head, "(")
	params, ret, _ := strings.Cut(rest, ")")
	owner, name, _ := strings.Cut(name, ".")
	n := slices.IndexFunc(list, func(c api.Class) bool { return c.Name == owner })
	if n < 0 {
		t.Fatalf("no class: %s", line)
	}
	m := api.Method{Name: name, Ret: typeOf(strings.TrimSpace(ret)), Stack: 20}
	for _, word := range strings.Fields(params) {
		m.Params = append(m.Params, typeOf(word))
	}
	m.Locals = 1 + len(m.Params)
	write(t, &list[n], &m, text)
	list[n].Methods = append(list[n].Methods, m)
}

// write: a method's code and handlers.
func write(t testing.TB, c *api.Class, m *api.Method, text string) {
	t.Helper()
	labels := map[string]int{}
	var lines, catches []string
	for line := range strings.SplitSeq(text, ";") {
		parts := strings.Split(line, ":")
		for _, label := range parts[:len(parts)-1] {
			labels[strings.TrimSpace(label)] = len(lines)
		}
		line = strings.TrimSpace(parts[len(parts)-1])
		switch {
		case strings.HasPrefix(line, "catch "):
			catches = append(catches, line)
		case line != "":
			lines = append(lines, line)
		}
	}
	for _, line := range lines {
		i := instruction(t, c, line, labels)
		if code.Operand(i.Op) == 1 {
			m.Locals = max(m.Locals, i.A+1)
		}
		m.Code = append(m.Code, i)
	}
	for _, line := range catches {
		words := strings.Fields(line)
		h := api.Handler{From: labels[words[1]], To: labels[words[2]], Target: labels[words[3]], Class: -1}
		h.Depth, _ = strconv.Atoi(words[4])
		if len(words) > 5 {
			h.Class = constantIn(c, api.Const{Kind: api.CClass, Class: words[5]})
		}
		m.Handlers = append(m.Handlers, h)
	}
}

func instruction(t testing.TB, c *api.Class, line string, labels map[string]int) api.Ins {
	t.Helper()
	words := append(strings.Fields(line), "")
	op := -1
	for n := range api.Ops {
		if strings.Fields(code.Print(api.Ins{Op: n}))[0] == words[0] {
			op = n
		}
	}
	if op < 0 {
		t.Fatalf("no instruction: %s", line)
	}
	i := api.Ins{Op: op}
	switch code.Operand(op) {
	case 1:
		i.A, _ = strconv.Atoi(words[1])
	case 2:
		i.A = constantIn(c, named(op, words[1]))
	case 3:
		at, there := labels[words[1]]
		if !there {
			t.Fatalf("no label: %s", line)
		}
		i.A = at
	}
	return i
}

// named: the constant that a word is for an instruction.
func named(op int, word string) api.Const {
	class, member, _ := strings.Cut(word, ".")
	switch op {
	case api.PushInt:
		n, _ := strconv.ParseInt(word, 10, 64)
		return api.Const{Kind: api.CInt, Int: n}
	case api.PushCplx:
		c, _ := strconv.ParseComplex(word, 128)
		return api.Const{Kind: api.CCplx, Cplx: c}
	case api.GetField, api.PutField:
		return api.Const{Kind: api.CField, Class: class, Name: member}
	case api.Call, api.Spawn:
		return api.Const{Kind: api.CMethod, Class: class, Name: member}
	}
	return api.Const{Kind: api.CClass, Class: word}
}

// constantIn: the place of a constant in a class's pool, where it is put if it isn't there.
func constantIn(c *api.Class, k api.Const) int {
	if n := slices.Index(c.Pool, k); n >= 0 {
		return n
	}
	c.Pool = append(c.Pool, k)
	return len(c.Pool) - 1
}

// filesOf: the class files of classes.
func filesOf(t testing.TB, l []api.Class) [][]byte {
	t.Helper()
	var files [][]byte
	for _, c := range l {
		b, err := class.Encode(c)
		if err != api.OK {
			t.Fatalf("Encode of %s: %d", c.Name, err)
		}
		files = append(files, b)
	}
	return files
}

// begun: a machine of classes, as a text tells them, at its beginning.
func begun(t testing.TB, words int, text string) *VM {
	t.Helper()
	v, err := Of(classesOf(t, text), words)
	if err != api.OK || v == nil {
		t.Fatalf("P16.1: Of: %v, %d", v, err)
	}
	return v
}

// roomy: with much room.
func roomy(t testing.TB, text string) *VM {
	t.Helper()
	return begun(t, api.MaxWords, text)
}

// pick: these, all of which must be true.
func pick(t testing.TB, v *VM, picks ...int) *VM {
	t.Helper()
	for _, n := range picks {
		if !v.Pick(n) {
			t.Fatalf("P16.1: Pick(%d) is false: %s", n, events(v.Events()))
		}
	}
	return v
}

// finish: it ends, by ever the first thread that is ready.
func finish(t testing.TB, v *VM) *VM {
	t.Helper()
	for range 200000 {
		if !v.Pick(0) {
			return v
		}
	}
	t.Fatalf("P16.1: it doesn't end: %s", events(v.Events()))
	return v
}

// events: as words, apart by semicolons; what an event's kind has no use for stands behind it.
func events(list []api.Event) string {
	var words []string
	for _, e := range list {
		word := fmt.Sprintf("%d %s", e.Thread, strings.Fields("none out outc end uncaught deadlock memory limit")[e.Kind])
		if e.Kind == api.EOut {
			word += fmt.Sprintf(" %d", e.Int)
			e.Int = 0
		}
		if rest := (api.Event{Int: e.Int, Cplx: e.Cplx, Class: e.Class}); rest != (api.Event{}) {
			word += fmt.Sprintf(" %d %v %s", e.Int, e.Cplx, e.Class)
		}
		words = append(words, word)
	}
	return strings.Join(words, "; ")
}

// all that is told of a machine; of objects, of the arena's first ones.
func all(v *VM) string {
	m := v.Machine()
	text := fmt.Sprintln(events(v.Events()), m.Over(), m.Ready(), m.Collections(), m.Heap().All(), m.Heap().Free())
	text += fmt.Sprintf("%+v\n", m.Threads())
	for id := range api.MaxThreads + 2 {
		text += fmt.Sprintln(id, events(v.Seen(id)), m.Buffer(id))
	}
	for at := range 50 {
		text += fmt.Sprintf("%s %+v\n", m.Class(at), m.Lock(at))
		words, _ := m.Heap().Words(at)
		for word := range words {
			value, _ := m.Heap().Get(at, word)
			text += fmt.Sprint(value, " ")
		}
	}
	return text
}

// is: what is told is what is promised.
func is(t testing.TB, promise string, got, want any) {
	t.Helper()
	if fmt.Sprint(got) != fmt.Sprint(want) {
		t.Errorf("%s: %v, not %v", promise, got, want)
	}
}
