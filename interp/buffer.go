package interp

import (
	"loom/api"
)

// spot: a word of an object; where a value of two words lies, the first one.
type spot struct{ at, word int }

// pending: a value on its way into an object.
type pending struct {
	spot
	value api.Value
}

// write: a plain one goes through the buffer.
func (m *Machine) write(t *thread, s spot, v api.Value, volatile bool) {
	if m.weak && !volatile {
		t.buffer = append(t.buffer, pending{s, v})
		return
	}
	m.set(s, v)
}

// read: what a thread itself has written last is what it reads.
func (m *Machine) read(t *thread, s spot, kind int) api.Value {
	for at := len(t.buffer) - 1; at >= 0; at-- {
		if t.buffer[at].spot == s {
			return t.buffer[at].value
		}
	}
	return m.get(s, kind)
}

// flushOne: the first write that is on its way is done; false, if there is none.
func (m *Machine) flushOne(t *thread) bool {
	if len(t.buffer) == 0 {
		return false
	}
	first := t.buffer[0]
	t.buffer = t.buffer[1:]
	m.set(first.spot, first.value)
	return true
}

func (m *Machine) flush(t *thread) {
again:
	if m.flushOne(t) {
		goto again
	}
}

// Flush: what a thread wrote first, of what isn't in its object yet, is put there; false, if there is nothing.
func (m *Machine) Flush(id int) bool {
	if !m.isThread(id) {
		return false
	}
	return m.flushOne(m.threads[id-1])
}

// Buffer: how much a thread has written that isn't in the objects yet.
func (m *Machine) Buffer(id int) int {
	if !m.isThread(id) {
		return 0
	}
	return len(m.threads[id-1].buffer)
}

func (m *Machine) isThread(id int) bool { return id >= 1 && id <= len(m.threads) }
