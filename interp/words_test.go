package interp

import (
	"fmt"
	"slices"
	"strconv"
	"strings"
	"testing"

	"loom/api"
	"loom/code"
	"loom/link"
)

// Types as words: void, int, cplx, arr; all others are TRefs of classes.
func typeOf(word string) api.Type {
	if kind := slices.Index(strings.Fields("void int cplx arr"), word); kind >= 0 {
		return api.Type{Kind: kind}
	}
	return api.Type{Kind: api.TRef, Class: word}
}

// The classes that most tests are about. What a test adds stands behind them, and begins with Main's methods.
const world = `
A: n int, o A, v int volatile, c cplx, l arr, w A volatile, d cplx volatile
A.run() void: ret
A.touch() void: enter 0; exit 0; ret
A.add(int int) int: load 1; load 2; add; retval
A.who() int: pushint 1; retval
B < A: m int
B.who() int: pushint 2; retval
C < A
F < Fault: extra int
G < F
Main < : k int, r A
`

// source: classes, as a text tells them line by line:
//
//	B < A: n int, v int volatile     a class, the one above it, its fields
//	B.f(int A) cplx: load 1; ..      a method of it
//
// Code: instructions apart by semicolons; `x:` ahead of one names it; constants and classes by their words;
// `catch x y z 1 B`: a handler of x to y - 1 at z, of Depth 1, of all or (as here) of a class.
type source struct {
	t       testing.TB
	classes []api.Class
}

// classesOf: a method's lines behind the first one may be indented.
func classesOf(t testing.TB, text string) []api.Class {
	t.Helper()
	s := &source{t: t}
	for line := range strings.SplitSeq(strings.ReplaceAll(text, "\n\t", " "), "\n") {
		line = strings.TrimSpace(line)
		head, _, _ := strings.Cut(line, ":")
		switch {
		case line == "":
		case strings.Contains(head, "("):
			s.method(line)
		default:
			s.class(line)
		}
	}
	return s.classes
}

func (s *source) class(line string) {
	head, fields, _ := strings.Cut(line, ":")
	name, super, _ := strings.Cut(head, "<")
	c := api.Class{Name: strings.TrimSpace(name), Super: strings.TrimSpace(super)}
	for field := range strings.SplitSeq(fields, ",") {
		if words := strings.Fields(field); len(words) > 0 {
			c.Fields = append(c.Fields, api.Field{Name: words[0], Type: typeOf(words[1]), Volatile: len(words) > 2})
		}
	}
	s.classes = append(s.classes, c)
}

func (s *source) method(line string) {
	s.t.Helper()
	head, text, _ := strings.Cut(line, ":")
	name, rest, _ := strings.Cut(head, "(")
	params, ret, _ := strings.Cut(rest, ")")
	class, name, _ := strings.Cut(name, ".")
	n := slices.IndexFunc(s.classes, func(c api.Class) bool { return c.Name == class })
	if n < 0 {
		s.t.Fatalf("no class: %s", line)
	}
	m := api.Method{Name: name, Ret: typeOf(strings.TrimSpace(ret)), Stack: 20}
	for _, word := range strings.Fields(params) {
		m.Params = append(m.Params, typeOf(word))
	}
	m.Locals = 1 + len(m.Params)
	s.code(&s.classes[n], &m, text)
	s.classes[n].Methods = append(s.classes[n].Methods, m)
}

func (s *source) code(c *api.Class, m *api.Method, text string) {
	s.t.Helper()
	labels := map[string]int{}
	var lines, catches []string
	for line := range strings.SplitSeq(text, ";") {
		parts := strings.Split(line, ":")
		for _, label := range parts[:len(parts)-1] {
			labels[strings.TrimSpace(label)] = len(lines)
		}
		line = strings.TrimSpace(parts[len(parts)-1])
		switch {
		case strings.HasPrefix(line, "catch "):
			catches = append(catches, line)
		case line != "":
			lines = append(lines, line)
		}
	}
	for _, line := range lines {
		i := s.instruction(c, line, labels)
		if code.Operand(i.Op) == 1 {
			m.Locals = max(m.Locals, i.A+1)
		}
		m.Code = append(m.Code, i)
	}
	for _, line := range catches {
		words := strings.Fields(line)
		h := api.Handler{From: labels[words[1]], To: labels[words[2]], Target: labels[words[3]], Class: -1}
		h.Depth, _ = strconv.Atoi(words[4])
		if len(words) > 5 {
			h.Class = constantIn(c, api.Const{Kind: api.CClass, Class: words[5]})
		}
		m.Handlers = append(m.Handlers, h)
	}
}

func (s *source) instruction(c *api.Class, line string, labels map[string]int) api.Ins {
	s.t.Helper()
	words := append(strings.Fields(line), "")
	op := -1
	for n := range api.Ops {
		if strings.Fields(code.Print(api.Ins{Op: n}))[0] == words[0] {
			op = n
		}
	}
	if op < 0 {
		s.t.Fatalf("no instruction: %s", line)
	}
	i := api.Ins{Op: op}
	switch code.Operand(op) {
	case 1:
		i.A, _ = strconv.Atoi(words[1])
	case 2:
		i.A = constantIn(c, named(op, words[1]))
	case 3:
		at, there := labels[words[1]]
		if !there {
			s.t.Fatalf("no label: %s", line)
		}
		i.A = at
	}
	return i
}

// named: the constant that a word is for an instruction.
func named(op int, word string) api.Const {
	class, member, _ := strings.Cut(word, ".")
	switch op {
	case api.PushInt:
		n, _ := strconv.ParseInt(word, 10, 64)
		return api.Const{Kind: api.CInt, Int: n}
	case api.PushCplx:
		c, _ := strconv.ParseComplex(word, 128)
		return api.Const{Kind: api.CCplx, Cplx: c}
	case api.GetField, api.PutField:
		return api.Const{Kind: api.CField, Class: class, Name: member}
	case api.Call, api.Spawn:
		return api.Const{Kind: api.CMethod, Class: class, Name: member}
	}
	return api.Const{Kind: api.CClass, Class: word}
}

// constantIn: the place of a constant in a class's pool, where it is put if it isn't there.
func constantIn(c *api.Class, k api.Const) int {
	same := func(other api.Const) bool { return fmt.Sprintf("%+v", other) == fmt.Sprintf("%+v", k) }
	if n := slices.IndexFunc(c.Pool, same); n >= 0 {
		return n
	}
	c.Pool = append(c.Pool, k)
	return len(c.Pool) - 1
}

func linked(t testing.TB, l []api.Class) *link.Program {
	t.Helper()
	p, err := link.Link(l)
	if err != api.OK {
		t.Fatalf("Link: %d, of %+v", err, l)
	}
	return p
}

// begun: a machine of world and what a text adds, at its beginning.
func begun(t testing.TB, words int, weak bool, text string) *Machine {
	t.Helper()
	m, err := New(linked(t, classesOf(t, world+text)), words, weak)
	if err != api.OK || m == nil {
		t.Fatalf("P15.1: New: %v, %d", m, err)
	}
	return m
}

// roomy: with much room, and without buffers.
func roomy(t testing.TB, text string) *Machine {
	t.Helper()
	return begun(t, api.MaxWords, false, text)
}

// buffered: with much room, and with buffers.
func buffered(t testing.TB, text string) *Machine {
	t.Helper()
	return begun(t, api.MaxWords, true, text)
}

// step: threads one after the other, each of which must be ready; `2*3` is thread 2 three times.
func step(t testing.TB, m *Machine, ids string) {
	t.Helper()
	for _, word := range strings.Fields(ids) {
		word, times, many := strings.Cut(word, "*")
		id, _ := strconv.Atoi(word)
		count := 1
		if many {
			count, _ = strconv.Atoi(times)
		}
		for range count {
			if err := m.Step(id); err != api.OK {
				t.Fatalf("P15.1: Step(%d) of %s: %d, %v", id, ids, err, m.Threads())
			}
		}
	}
}

// finish: always the first thread that is ready, until the machine is over.
func finish(t testing.TB, m *Machine) *Machine {
	t.Helper()
	for range 100000 {
		if m.Over() {
			return m
		}
		step(t, m, strconv.Itoa(m.Ready()[0]))
	}
	t.Fatalf("P15.1: it isn't over: %v", m.Threads())
	return m
}

// events: as words, apart by semicolons.
func events(m *Machine) string { return eventWords(m.Events()) }

func eventWords(list []api.Event) string {
	var words []string
	for _, e := range list {
		words = append(words, eventWord(e))
	}
	return strings.Join(words, "; ")
}

// eventWord tells all that an event has: what its kind has no use for stands behind it.
func eventWord(e api.Event) string {
	kinds := strings.Fields("none out outc end uncaught deadlock memory limit")
	text := fmt.Sprintf("%d %s", e.Thread, kinds[e.Kind])
	switch e.Kind {
	case api.EOut:
		text += fmt.Sprintf(" %d", e.Int)
		e.Int = 0
	case api.EOutC:
		text += fmt.Sprintf(" %v", e.Cplx)
		e.Cplx = 0
	case api.EUncaught:
		text += fmt.Sprintf(" %s %d", e.Class, e.Int)
		e.Class, e.Int = "", 0
	}
	if rest := (api.Event{Int: e.Int, Cplx: e.Cplx, Class: e.Class}); rest != (api.Event{}) {
		text += fmt.Sprintf(" and %+v", rest)
	}
	return text
}

// outcome: the events of a program of one thread with much room.
func outcome(t testing.TB, text string) string {
	t.Helper()
	return events(finish(t, roomy(t, text)))
}

// puts: what a main does; the one thing that is promised of it here is its events.
func puts(t testing.TB, promise, main, want string) {
	t.Helper()
	if got := outcome(t, "Main.main() void: "+main); got != want {
		t.Errorf("%s: %s:\n%s, not\n%s", promise, main, got, want)
	}
}

// valueWord: i7, c(1+2i), null, @3 (an object), []3 (an array), - (TTop); with all that should be zero and isn't.
func valueWord(v api.Value) string {
	text := ""
	switch v.Kind {
	case api.TInt:
		text, v.Int = fmt.Sprintf("i%d", v.Int), 0
	case api.TCplx:
		text, v.Cplx = fmt.Sprintf("c%v", v.Cplx), 0
	case api.TArr:
		text, v.Ref = fmt.Sprintf("[]%d", v.Ref), 0
	case api.TRef:
		text, v.Ref = fmt.Sprintf("@%d", v.Ref), 0
	case api.TNull:
		text = "null"
	case api.TTop:
		text = "-"
	default:
		text = fmt.Sprintf("kind %d", v.Kind)
	}
	if rest := (api.Value{Int: v.Int, Cplx: v.Cplx, Ref: v.Ref}); rest != (api.Value{}) {
		text += fmt.Sprintf(" and %+v", rest)
	}
	return text
}

func valueWords(list []api.Value) string {
	var words []string
	for _, v := range list {
		words = append(words, valueWord(v))
	}
	return strings.Join(words, " ")
}

// frameWords: class, method, pc; locals; stack; locks.
func frameWords(f api.Frame) string {
	return fmt.Sprintf("%s.%s %d [%s] [%s] %v", f.Class, f.Method, f.Pc, valueWords(f.Locals), valueWords(f.Stack), append([]int{}, f.Locks...))
}

func threadWords(x api.Thread) string {
	text := fmt.Sprintf("%d %s", x.Id, strings.Fields("none ready blocked waiting joining ended")[x.State])
	for _, f := range x.Frames {
		text += "; " + frameWords(f)
	}
	return text
}

// shown: a thread as it stands.
func shown(m *Machine, id int) string { return threadWords(m.Threads()[id-1]) }

// lastFrame: of a thread, as it stands.
func lastFrame(m *Machine, id int) string {
	frames := m.Threads()[id-1].Frames
	if len(frames) == 0 {
		return "none"
	}
	return frameWords(frames[len(frames)-1])
}

// states: of all threads, by their letters: Ready, Blocked, Waiting, Joining, Ended.
func states(m *Machine) string {
	text := ""
	for _, x := range m.Threads() {
		text += string("?RBWJE"[x.State])
	}
	return text
}

func lockWord(l api.Lock) string {
	fat := "thin"
	if l.Fat {
		fat = "fat"
	}
	return fmt.Sprint(l.Owner, " ", l.Count, " ", fat, " ", append([]int{}, l.Entry...), " ", append([]int{}, l.Wait...))
}

// is: what is told is what is promised.
func is(t testing.TB, promise string, got, want any) {
	t.Helper()
	if fmt.Sprint(got) != fmt.Sprint(want) {
		t.Errorf("%s: %v, not %v", promise, got, want)
	}
}
