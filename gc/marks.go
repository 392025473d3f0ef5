package gc

import (
	"loom/heap"
)

// What is known of an address.
const (
	nothing = iota // no object begins there
	unseen         // one does, and nothing has led to it yet
	seen
)

// marks: how far a walk along the references has come.
type marks struct {
	objects []int   // where one begins, rising
	at      []uint8 // what is known of each address; 0 is none
	stack   []int   // seen, and not yet asked what it refers to
}

func begin(h *heap.Heap) *marks {
	m := &marks{objects: h.All(), at: make([]uint8, h.Size()+1)}
	for _, at := range m.objects {
		m.at[at] = unseen
	}
	return m
}

// reach: what is an object's address, and new, is seen and put on the stack. It is marked here, not when it is taken off, so that it is never there twice.
func (m *marks) reach(list []int) {
	for _, at := range list {
		if at < 0 || at >= len(m.at) || m.at[at] != unseen {
			continue
		}
		m.at[at] = seen
		m.stack = append(m.stack, at)
	}
}

func (m *marks) done() bool { return len(m.stack) == 0 }

func (m *marks) pop() int {
	last := len(m.stack) - 1
	at := m.stack[last]
	m.stack = m.stack[:last]
	return at
}

func (m *marks) reached() []int {
	var list []int
	for _, at := range m.objects {
		if m.at[at] == seen {
			list = append(list, at)
		}
	}
	return list
}
