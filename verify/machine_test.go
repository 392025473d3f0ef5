package verify

import (
	"math/rand"
	"slices"
	"strings"
	"testing"

	"loom/api"
	"loom/code"
)

// machine: runs one method by values, which it knows by their words alone: int, cplx, arr, null, the class of an object, or ? (no value).
// What a value is, and what hangs on it, is picked: each way that the machine could take is taken at some time.
type machine struct {
	random *rand.Rand
	method api.Method
	pool   []api.Const
	rows   map[string]row
	pc     int
	locals []string
	stack  []string
	over   bool
	wrong  string
}

// isOf: whether a value may be where a state tells a type.
func isOf(value, word string) bool {
	return word == "-" || value != "?" && takesIt(word, value)
}

// some: a value of a type.
func (m *machine) some(word string) string {
	switch word {
	case "int", "cplx":
		return word
	case "arr":
		return []string{"arr", "null"}[m.random.Intn(2)]
	}
	list := append(below(word), "null")
	return list[m.random.Intn(len(list))]
}

// expect: the values are what the state tells, and no higher than the method says.
func (m *machine) expect(s api.State) {
	fit := s.Reached && len(m.stack) == len(s.Stack) && len(m.stack) <= m.method.Stack && len(m.locals) == len(s.Locals)
	for at := 0; fit && at < len(m.stack); at++ {
		fit = isOf(m.stack[at], wordOf(s.Stack[at]))
	}
	for at := 0; fit && at < len(m.locals); at++ {
		fit = isOf(m.locals[at], wordOf(s.Locals[at]))
	}
	if !fit {
		m.wrong = "values that the state doesn't tell"
	}
}

// throw: to the first handler that is there for it.
func (m *machine) throw(class string) {
	for _, h := range m.method.Handlers {
		if h.From <= m.pc && m.pc < h.To && (h.Class < 0 || slices.Contains(below(m.pool[h.Class].Class), class)) {
			m.pc, m.stack = h.Target, []string{class}
			return
		}
	}
	m.over = true
}

// take: the values that the instruction takes, if they are there and such as it asks for.
func (m *machine) take(takes []string) []string {
	left := len(m.stack) - len(takes)
	if left < 0 {
		m.wrong = "a stack too short"
		return takes
	}
	values := slices.Clone(m.stack[left:])
	for at, want := range takes {
		if !takesIt(want, values[at]) {
			m.wrong = "a value of another type"
		}
	}
	m.stack = m.stack[:left]
	return values
}

func (m *machine) step() {
	i := m.method.Code[m.pc]
	r := rowOf(m.rows, m.pool, m.method, i)
	values := m.take(strings.Fields(r.takes))
	if m.wrong != "" {
		return
	}
	if code.Faults(i.Op) && m.faults(i, values) {
		return
	}
	for _, word := range strings.Fields(r.puts) {
		m.stack = append(m.stack, m.some(word))
	}
	m.pc++
	switch i.Op {
	case api.Null:
		m.stack[len(m.stack)-1] = "null"
	case api.New, api.NewArr:
		m.stack[len(m.stack)-1] = r.puts
	case api.Cast:
		m.stack[len(m.stack)-1] = values[0]
	case api.Dup:
		m.stack = append(m.stack, values[0], values[0])
	case api.Store:
		m.locals[i.A] = values[0]
	case api.Load, api.Enter, api.Exit:
		m.read(i)
	case api.Goto:
		m.pc = i.A
	case api.IfZero, api.IfOne:
		if m.random.Intn(2) == 0 {
			m.pc = i.A
		}
	case api.Ret, api.RetVal:
		m.over = true
		if (i.Op == api.Ret) != (m.method.Ret.Kind == api.TVoid) {
			m.wrong = "another way out"
		}
	}
}

func (m *machine) read(i api.Ins) {
	value := m.locals[i.A]
	if value == "?" || i.Op != api.Load && !takesIt("Object", value) {
		m.wrong = "a local that may not be read"
	}
	if i.Op == api.Load {
		m.stack = append(m.stack, value)
	}
}

// faults: whether the instruction throws; it must, if it throws always or is a Cast of what isn't below.
func (m *machine) faults(i api.Ins, values []string) bool {
	if i.Op == api.Throw && values[0] != "null" {
		m.throw(values[0])
		return true
	}
	failed := i.Op == api.Cast && values[0] != "null" && !slices.Contains(below(m.pool[i.A].Class), values[0])
	if i.Op == api.Throw || failed || m.random.Intn(6) == 0 {
		thrown := "Fault"
		if i.Op == api.Call {
			thrown = below("Object")[m.random.Intn(8)]
		}
		m.throw(thrown)
		return true
	}
	return false
}

// run: along at most so many instructions.
func (m *machine) run(states []api.State, most int) string {
	m.pc, m.stack, m.over, m.locals = 0, nil, false, []string{"Main"}
	for _, t := range m.method.Params {
		m.locals = append(m.locals, m.some(wordOf(t)))
	}
	for len(m.locals) < m.method.Locals {
		m.locals = append(m.locals, "?")
	}
	for range most {
		m.expect(states[m.pc])
		if m.wrong == "" {
			m.step()
		}
		if m.over || m.wrong != "" {
			break
		}
	}
	return m.wrong
}

func TestWhatIsAcceptedMeetsNoOtherValues(t *testing.T) {
	w := newWriter(t)
	runs := 0
	for number := range 1500 {
		method := w.written(number)
		states, err := Method(linked(t, world(w.pool, method)), "Main", "it")
		if err != api.OK {
			continue
		}
		m := &machine{random: rand.New(rand.NewSource(int64(number))), method: method, pool: w.pool, rows: rowsByCode()}
		for range 20 {
			if wrong := m.run(states, 100); wrong != "" {
				t.Fatalf("P8.4: method %d, %+v: at %d: %s: %v, %v, not %s", number, method, m.pc, wrong, m.locals, m.stack, tell(states[m.pc]))
			}
			runs++
		}
	}
	if runs < 2000 {
		t.Errorf("%d runs", runs)
	}
}
