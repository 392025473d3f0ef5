package roots

import (
	"math/rand"
	"testing"

	"loom/api"
)

// value: i, c (numbers), r (a reference), or ? (nothing that may be read); the bits of a number may be those of a reference, too.
type value struct {
	kind byte
	bits int
}

// machine: runs one method by values. Objects are kept by their numbers, from 1 on, each with that of its field; null is 0.
// Ahead of each instruction all objects are thrown away that can't be reached by what the maps tell: what isn't told is no reference.
type machine struct {
	random *rand.Rand
	maps   *Maps
	method api.Method
	pc     int
	locals []value
	stack  []value
	heap   map[int]int
	last   int // the number of the object that was made last
	freed  int // how many objects were thrown away
	lost   int // how many references that may not be read any more
	over   bool
	wrong  string
}

func (m *machine) fresh() value {
	m.last++
	m.heap[m.last] = 0
	return value{'r', m.last}
}

// number: with the bits of some object, here now or thrown away.
func (m *machine) number(kind byte) value { return value{kind, m.random.Intn(m.last + 2)} }

func (m *machine) push(v value) { m.stack = append(m.stack, v) }

func (m *machine) pop(kind byte) value {
	last := len(m.stack) - 1
	v := m.stack[last]
	m.stack = m.stack[:last]
	m.read(v, kind)
	return v
}

// read: a value of a kind that is asked for (0: of any); what a reference leads to must be there.
func (m *machine) read(v value, kind byte) {
	if v.kind == '?' || kind != 0 && v.kind != kind {
		m.wrong = "a value of another kind"
	}
	if _, there := m.heap[v.bits]; v.kind == 'r' && v.bits != 0 && !there {
		m.wrong = "an object that was thrown away"
	}
}

// visit: what is told is a reference; what isn't told is overwritten, if it is one.
func (m *machine) visit(values []value, told []bool, reached map[int]int) {
	if len(values) != len(told) {
		m.wrong = "another count than is told"
		return
	}
	for at := range values {
		v := &values[at]
		switch {
		case told[at] && v.kind != 'r':
			m.wrong = "what is told is no reference"
		case told[at]:
			m.mark(v.bits, reached)
		case v.kind == 'r':
			*v = value{'?', 0}
			m.lost++
		}
	}
}

func (m *machine) mark(at int, reached map[int]int) {
	for at != 0 {
		if _, there := reached[at]; there {
			return
		}
		field, there := m.heap[at]
		if !there {
			m.wrong = "what is told was thrown away"
			return
		}
		reached[at] = field
		at = field
	}
}

// collect: only what the maps lead to stays.
func (m *machine) collect() {
	locals, stack, ok := m.maps.At("Main", "it", m.pc)
	if !ok || m.maps.Depth("Main", "it", m.pc) != len(m.stack) {
		m.wrong = "an instruction that isn't told"
		return
	}
	reached := map[int]int{}
	m.visit(m.locals, locals, reached)
	m.visit(m.stack, stack, reached)
	m.freed += len(m.heap) - len(reached)
	m.heap = reached
}

// throw: to some handler, or out of the method.
func (m *machine) throw() {
	for _, h := range m.method.Handlers {
		if h.From <= m.pc && m.pc < h.To && (h.Class < 0 || m.random.Intn(2) == 0) {
			m.pc, m.stack = h.Target, []value{m.fresh()}
			return
		}
	}
	m.over = true
}

func (m *machine) step() {
	i := m.method.Code[m.pc]
	if m.random.Intn(30) == 0 {
		m.throw()
		return
	}
	m.pc++
	switch i.Op {
	case api.PushInt, api.PushCplx:
		m.push(m.number("ic"[i.Op-api.PushInt]))
	case api.Null:
		m.push(value{'r', 0})
	case api.New:
		m.push(m.fresh())
	case api.NewArr:
		m.pop('i')
		m.push(m.fresh())
	case api.Load:
		m.read(m.locals[i.A], 0)
		m.push(m.locals[i.A])
	case api.Store:
		m.locals[i.A] = m.pop(0)
	case api.Pop:
		m.pop(0)
	case api.Out:
		m.pop('i')
	case api.OutC:
		m.pop('c')
	case api.ArrLen:
		m.pop('r')
		m.push(m.number('i'))
	case api.Goto:
		m.pc = i.A
	case api.IfOne, api.IfZero:
		m.pop('i')
		if m.random.Intn(2) == 0 {
			m.pc = i.A
		}
	case api.Enter, api.Exit:
		m.read(m.locals[i.A], 'r')
	case api.Ret:
		m.over = true
	default:
		m.object(i)
	}
}

// object: instructions that ask what an object has; of null there is nothing to be had, and nothing is done.
func (m *machine) object(i api.Ins) {
	switch i.Op {
	case api.Cast:
		m.read(m.stack[len(m.stack)-1], 'r')
	case api.GetField:
		m.push(value{'r', m.heap[m.pop('r').bits]})
	case api.PutField:
		field, of := m.pop('r'), m.pop('r')
		if of.bits != 0 {
			m.heap[of.bits] = field.bits
		}
	case api.Call:
		m.pop('r')
		m.push([]value{m.fresh(), {'r', 0}}[m.random.Intn(2)])
	}
}

// run: along at most so many instructions.
func (m *machine) run(most int) {
	m.pc, m.stack, m.over, m.heap, m.last = 0, nil, false, map[int]int{}, 0
	m.locals = []value{m.fresh(), m.number('i'), m.number('c'), m.fresh(), m.fresh()}
	for len(m.locals) < m.method.Locals {
		m.locals = append(m.locals, value{'?', 0})
	}
	for range most {
		if m.collect(); m.wrong == "" {
			m.step()
		}
		if m.over || m.wrong != "" {
			return
		}
	}
}

func TestWhatIsNotToldIsNoReference(t *testing.T) {
	runs, freed, lost := 0, 0, 0
	for number := range 3000 {
		method := written(number)
		maps, err := Of(linked(t, world(method)))
		if err != api.OK {
			continue
		}
		m := &machine{random: rand.New(rand.NewSource(int64(number))), maps: maps, method: method}
		for range 20 {
			if m.run(200); m.wrong != "" {
				t.Fatalf("P10.2: method %d, %s: at %d: %s: %v, %v", number, codeText(method), m.pc, m.wrong, m.locals, m.stack)
			}
			runs++
		}
		freed, lost = freed+m.freed, lost+m.lost
	}
	if runs < 20000 || freed < runs || lost < runs/20 {
		t.Errorf("%d runs, %d objects were thrown away, %d references lost", runs, freed, lost)
	}
}

// Integers and complex numbers of whatever bits.
func TestNumbersAreNoReferencesWhateverTheirBits(t *testing.T) {
	for _, bits := range []int64{0, 1, 2, 3, 4, 8, 16, 100, 2047, 2048, -1, 1 << 31, 1 << 32, 1<<63 - 1, -1 << 63} {
		l := world(method(t, "int cplx", 2, 2, "pushint 7; pushcplx 7i; store 4; store 3; load 3; load 4; ret"))
		main := &l[3]
		main.Pool[0].Int, main.Pool[3].Cplx = bits, complex(float64(bits), float64(bits))
		if got := tellAll(mapsOf(t, linked(t, l)), "Main", "it", 7); got != "r....| r....|. r....|.. r....|. r....| r....|. r....|.." {
			t.Errorf("P10.2: %d: %s", bits, got)
		}
	}
}
