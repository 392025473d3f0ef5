package locks

import (
	"loom/api"
	"loom/code"
)

// walk along a method's code: each instruction that is reached is passed once, with the locks of whoever comes to it first; whoever comes later must have the same.
type walk struct {
	method  api.Method
	ahead   []held // by instructions, as the one below: the locks ahead of each
	reached []bool
	waiting []int // reached, but not passed yet
}

func newWalk(m api.Method) *walk {
	count := len(m.Code)
	return &walk{method: m, ahead: make([]held, count), reached: make([]bool, count)}
}

// fits: whether the locks fit at each instruction that is reached.
func (w *walk) fits() bool {
	w.come(0, held{})
next:
	if len(w.waiting) == 0 {
		return true
	}
	last := len(w.waiting) - 1
	at := w.waiting[last]
	w.waiting = w.waiting[:last]
	if !w.pass(at) {
		return false
	}
	goto next
}

// come: one may come to instruction at with the locks h; false, if others come there with other ones.
func (w *walk) come(at int, h held) bool {
	if w.reached[at] {
		return w.ahead[at] == h
	}
	w.ahead[at], w.reached[at] = h, true
	w.waiting = append(w.waiting, at)
	return true
}

// pass: whether an instruction may run with its locks, and all that may come next with what it leaves.
func (w *walk) pass(at int) bool {
	i := w.method.Code[at]
	h, ok := behind(i, w.ahead[at])
	if ok && !code.Stops(i.Op) {
		ok = w.come(at+1, h)
	}
	if ok && code.Jumps(i.Op) {
		ok = w.come(i.A, h)
	}
	return ok && w.handle(at)
}

// behind: the locks behind an instruction that has h ahead of it; false, if it may not run with these.
func behind(i api.Ins, h held) (held, bool) {
	switch i.Op {
	case api.Enter:
		if h.has(i.A) || h.count == api.MaxLocks {
			return h, false
		}
		return h.with(i.A), true
	case api.Exit:
		if !h.isLast(i.A) {
			return h, false
		}
		return h.first(h.count - 1), true
	case api.Store:
		return h, !h.has(i.A)
	case api.Ret, api.RetVal:
		return h, h.count == 0
	}
	return h, true
}

// handle: a handler begins with some of the locks ahead of the instruction, whatever that would have done to them.
func (w *walk) handle(at int) bool {
	h := w.ahead[at]
	for _, by := range w.method.Handlers {
		if at < by.From || at >= by.To {
			continue
		}
		if by.Depth > h.count || !w.come(by.Target, h.first(by.Depth)) {
			return false
		}
	}
	return true
}
