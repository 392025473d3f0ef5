package interp

import (
	"loom/api"
)

func (m *Machine) enter(t *thread, f *frame, local int) int {
	at := f.locals[local].Ref
	if at == 0 {
		return api.FNull
	}
	// A thread that is ready stands in no lock's lists, so there is no error.
	had, _ := m.locks.Enter(at, t.id)
	if !had {
		m.sched.Set(t.id, api.Blocked)
		return placed
	}
	f.locks = append(f.locks, local)
	return done
}

// exit: of the local that was locked last, which is the one that an Exit names.
func (m *Machine) exit(t *thread, f *frame) {
	m.flush(t)
	last := len(f.locks) - 1
	next, _ := m.locks.Exit(f.locals[f.locks[last]].Ref, t.id)
	f.locks = f.locks[:last]
	m.handOver(next)
}

// handOver: who has got a lock (0: nobody) goes on behind what it asked for it by.
func (m *Machine) handOver(id int) {
	if id == 0 {
		return
	}
	m.sched.Set(id, api.Ready)
	f := m.threads[id-1].last()
	if i := f.instruction(); i.Op == api.Enter {
		f.locks = append(f.locks, i.A)
	}
	f.pc++
}

// mayNotify: whether the thread has the lock of the object on its stack's top; else the fault's code.
func (m *Machine) mayNotify(t *thread, at int) int {
	switch {
	case at == 0:
		return api.FNull
	case m.locks.Lock(at).Owner != t.id:
		return api.FState
	}
	return done
}

func (m *Machine) wait(t *thread, f *frame) int {
	at := f.under(0).Ref
	if fault := m.mayNotify(t, at); fault != done {
		return fault
	}
	m.flush(t)
	f.take(1)
	m.sched.Set(t.id, api.Waiting)
	next, _ := m.locks.Wait(at, t.id)
	m.handOver(next)
	return placed
}

func (m *Machine) notify(t *thread, f *frame, all bool) int {
	at := f.under(0).Ref
	if fault := m.mayNotify(t, at); fault != done {
		return fault
	}
	waiting := m.locks.Lock(at).Wait
	count, _ := m.locks.Notify(at, t.id, all)
	for _, id := range waiting[:count] {
		m.sched.Set(id, api.Blocked)
	}
	f.take(1)
	return done
}

func (m *Machine) spawn(t *thread, f *frame, name string) int {
	receiver := f.under(0)
	if receiver.Ref == 0 {
		return api.FNull
	}
	spawned, err := m.begin()
	if err != api.OK {
		m.stop(api.Event{Thread: t.id, Kind: api.ELimit})
		return placed
	}
	m.flush(t)
	spawned.call(m.called(receiver.Ref, name), []api.Value{receiver})
	f.put(integer(int64(spawned.id)), 1)
	return done
}

func (m *Machine) join(t *thread, f *frame) int {
	other := f.under(0).Int
	if other < 1 || other > int64(len(m.threads)) {
		return api.FBounds
	}
	f.take(1)
	if ended, _ := m.sched.Join(t.id, int(other)); !ended {
		return placed
	}
	return done
}

// end: a thread has no frame any more. Who waited for that goes on behind its Join.
func (m *Machine) end(t *thread, e api.Event) {
	m.flush(t)
	m.note(e)
	freed, _ := m.sched.End(t.id)
	for _, id := range freed {
		m.threads[id-1].last().pc++
	}
}
