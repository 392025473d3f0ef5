package interp

import (
	"slices"

	"loom/api"
)

// fail: a new Fault is thrown, if there is room for it.
func (m *Machine) fail(t *thread, code int) {
	at := m.object(t, m.fault)
	if at == 0 {
		return
	}
	m.set(spot{at, m.code}, integer(int64(code)))
	m.throw(t, at)
}

func (m *Machine) throwTop(t *thread, f *frame) int {
	at := f.under(0).Ref
	if at == 0 {
		return api.FNull
	}
	m.throw(t, at)
	return placed
}

// throw: frame by frame, the last one first, until one has a handler. The thread ends, if none has.
func (m *Machine) throw(t *thread, at int) {
	thrown := m.classOf(at)
next:
	if len(t.frames) == 0 {
		m.end(t, m.uncaught(t, at, thrown))
		return
	}
	f := t.last()
	fits := func(h api.Handler) bool { return f.method.handles(h, f.pc, thrown) }
	if n := slices.IndexFunc(f.method.handlers, fits); n >= 0 {
		h := f.method.handlers[n]
		m.exitTo(t, f, h.Depth)
		f.pc, f.stack = h.Target, []api.Value{reference(api.TRef, at)}
		return
	}
	m.exitTo(t, f, 0)
	t.leave()
	goto next
}

// exitTo: all locks of a frame but so many.
func (m *Machine) exitTo(t *thread, f *frame, depth int) {
again:
	if len(f.locks) > depth {
		m.exit(t, f)
		goto again
	}
}

// uncaught: the code is the one that the thread itself would read.
func (m *Machine) uncaught(t *thread, at int, thrown class) api.Event {
	e := api.Event{Thread: t.id, Kind: api.EUncaught, Class: thrown.name}
	if slices.Contains(thrown.above, m.fault) {
		e.Int = m.read(t, spot{at, m.code}, api.TInt).Int
	}
	return e
}
