package interp

import (
	"slices"

	"loom/api"
)

// thread: its calls, the first one first, and what it has written that isn't in the objects yet.
type thread struct {
	id     int
	frames []*frame
	buffer []pending
}

// frame: a call. It stands at its instruction until that is done; what calls another one stands at its Call.
type frame struct {
	method *method
	pc     int
	locals []api.Value
	stack  []api.Value
	locks  []int // the locals that are locked, the last one last
}

func integer(n int64) api.Value { return api.Value{Kind: api.TInt, Int: n} }

func complexNumber(c complex128) api.Value { return api.Value{Kind: api.TCplx, Cplx: c} }

// reference: to what is of that kind, an object or an array; null, if there is nothing.
func reference(kind, at int) api.Value {
	if at == 0 {
		kind = api.TNull
	}
	return api.Value{Kind: kind, Ref: at}
}

func truth(is bool) api.Value {
	if is {
		return integer(1)
	}
	return integer(0)
}

// begin: one more thread, without a call yet; an error, if there are too many.
func (m *Machine) begin() (*thread, api.Errno) {
	id, err := m.sched.Spawn()
	if err != api.OK {
		return nil, err
	}
	t := &thread{id: id}
	m.threads = append(m.threads, t)
	return t, api.OK
}

// call: a new frame, which has a copy of what the call takes. All other locals are integers: a frame isn't shown, nor looked through, where they are read as anything else.
func (t *thread) call(called *method, taken []api.Value) {
	locals := make([]api.Value, called.locals)
	for at := copy(locals, taken); at < len(locals); at++ {
		locals[at] = integer(0)
	}
	t.frames = append(t.frames, &frame{method: called, locals: locals})
}

func (t *thread) last() *frame { return t.frames[len(t.frames)-1] }

// leave: the last frame is gone.
func (t *thread) leave() { t.frames = t.frames[:len(t.frames)-1] }

func (f *frame) instruction() api.Ins { return f.method.code[f.pc] }

// under: what is on the stack, so many places under its top.
func (f *frame) under(places int) api.Value { return f.stack[len(f.stack)-1-places] }

func (f *frame) push(v api.Value) { f.stack = append(f.stack, v) }

func (f *frame) pop() api.Value { return f.take(1)[0] }

// take: so many from the stack; they stand where they stood until something is pushed.
func (f *frame) take(count int) []api.Value {
	left := len(f.stack) - count
	taken := f.stack[left:]
	f.stack = f.stack[:left]
	return taken
}

// put: something instead of so many on the stack.
func (f *frame) put(v api.Value, count int) {
	f.take(count)
	f.push(v)
}

// show: the frame as it stands. What nobody may read isn't shown: it may be a reference to what is gone.
func (f *frame) show() api.Frame {
	shown := api.Frame{
		Class:  f.method.owner,
		Method: f.method.name,
		Pc:     f.pc,
		Locals: slices.Clone(f.locals),
		Stack:  slices.Clone(f.stack),
		Locks:  slices.Clone(f.locks),
	}
	for local := range shown.Locals {
		if f.method.tops[f.pc]>>local&1 == 1 {
			shown.Locals[local] = api.Value{Kind: api.TTop}
		}
	}
	return shown
}
