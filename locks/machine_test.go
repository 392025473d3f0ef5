package locks

import (
	"math/rand"
	"slices"
	"testing"

	"loom/api"
)

// machine: runs one method by values: objects by numbers from 1 on, null 0, an integer -1.
// Whether a fork is taken, and whether something is thrown, is picked: each way is gone at some time.
type machine struct {
	random  *rand.Rand
	method  api.Method
	pc      int
	locals  []int
	stack   []int
	entered []int // objects, the last one last
	objects int
	over    bool
	wrong   string
}

func (m *machine) fresh() int {
	m.objects++
	return m.objects
}

func (m *machine) push(value int) { m.stack = append(m.stack, value) }

func (m *machine) pop() int {
	last := len(m.stack) - 1
	value := m.stack[last]
	m.stack = m.stack[:last]
	return value
}

// expect: what is entered are the objects of the locals that the state tells, in order.
func (m *machine) expect(s api.State) {
	var objects []int
	for _, local := range s.Locks {
		objects = append(objects, m.locals[local])
	}
	if !s.Reached || !slices.Equal(objects, m.entered) || len(m.entered) > api.MaxLocks {
		m.wrong = "other locks than the state tells"
	}
}

// throw: to some handler, or out of the method: all but the first Depth are exited.
func (m *machine) throw() {
	for _, h := range m.method.Handlers {
		if h.From <= m.pc && m.pc < h.To && (h.Class < 0 || m.random.Intn(2) == 0) {
			if h.Depth > len(m.entered) {
				m.wrong = "a handler that keeps more than there are"
				return
			}
			m.entered = m.entered[:h.Depth]
			m.pc, m.stack = h.Target, []int{m.fresh()}
			return
		}
	}
	m.entered, m.over = nil, true
}

func (m *machine) step() {
	i := m.method.Code[m.pc]
	if i.Op == api.Throw || m.random.Intn(12) == 0 || i.Op == api.Enter && m.locals[i.A] == 0 {
		m.throw()
		return
	}
	m.pc++
	switch i.Op {
	case api.PushInt:
		m.push(-1)
	case api.Null:
		m.push(0)
	case api.New:
		m.push(m.fresh())
	case api.Load:
		m.push(m.locals[i.A])
	case api.Store:
		m.locals[i.A] = m.pop()
	case api.Pop:
		m.pop()
	case api.Goto:
		m.pc = i.A
	case api.IfOne, api.IfZero:
		m.pop()
		if m.random.Intn(2) == 0 {
			m.pc = i.A
		}
	case api.Enter:
		m.entered = append(m.entered, m.locals[i.A])
	case api.Exit:
		m.exit(m.locals[i.A])
	case api.Ret:
		m.over = true
		if len(m.entered) > 0 {
			m.wrong = "left with something entered"
		}
	}
}

func (m *machine) exit(object int) {
	last := len(m.entered) - 1
	if last < 0 || m.entered[last] != object {
		m.wrong = "an exit of what wasn't entered last"
		return
	}
	m.entered = m.entered[:last]
}

// run: along at most so many instructions.
func (m *machine) run(states []api.State, most int) {
	m.pc, m.stack, m.entered, m.over = 0, nil, nil, false
	m.locals = []int{m.fresh()}
	for range 6 {
		m.locals = append(m.locals, m.fresh()*min(1, m.random.Intn(4)))
	}
	m.locals = append(m.locals, 0)
	for range most {
		m.expect(states[m.pc])
		if m.wrong == "" {
			m.step()
		}
		if m.over || m.wrong != "" {
			return
		}
	}
}

func TestWhatIsEnteredIsExitedTheLastOneFirst(t *testing.T) {
	runs, left := 0, 0
	for number := range 3000 {
		for _, method := range []api.Method{written(t, number), small(t, number)} {
			states, err := Method(linked(t, world(method)), "Main", "it")
			if err != api.OK {
				continue
			}
			m := &machine{random: rand.New(rand.NewSource(int64(number))), method: method}
			for range 20 {
				if m.run(states, 200); m.wrong != "" {
					t.Fatalf("P9.3: method %d, %s: at %d: %s: %v, %v, not %s", number, codeText(method), m.pc, m.wrong, m.locals, m.entered, texts(states))
				}
				runs++
				if m.over {
					left++
				}
			}
		}
	}
	if runs < 20000 || left < runs/2 {
		t.Errorf("%d runs, %d of them to an end", runs, left)
	}
}
