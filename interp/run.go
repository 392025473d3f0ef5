package interp

import (
	"loom/api"
	"loom/cplx"
	"loom/num"
)

// What comes of an instruction, beside the code of a fault, which is above 0.
const (
	done   = 0  // the thread goes on behind it
	placed = -1 // the thread stands where it is to stand
)

// do: the instruction that a thread stands at.
func (m *Machine) do(t *thread) {
	f := t.last()
	i := f.instruction()
	comes := done
	switch i.Op {
	case api.PushInt, api.PushCplx, api.Null, api.Load, api.Store, api.Pop, api.Dup:
		f.move(i)
	case api.Add, api.Sub, api.Mul, api.Div, api.Rem, api.Neg, api.Less, api.Same:
		comes = f.reckon(i.Op)
	case api.CAdd, api.CSub, api.CMul, api.CConj, api.CSame:
		f.reckonComplex(i.Op)
	case api.RSame:
		f.put(truth(f.under(0).Ref == f.under(1).Ref), 2)
	case api.Goto:
		goto jump
	case api.IfZero, api.IfOne:
		if (f.pop().Int == 0) == (i.Op == api.IfZero) {
			goto jump
		}
	case api.New, api.NewArr:
		comes = m.create(t, f, i)
	case api.GetField, api.PutField:
		comes = m.field(t, f, i)
	case api.ArrLen, api.ArrGet, api.ArrPut:
		comes = m.element(t, f, i.Op)
	case api.Call:
		comes = m.call(t, f, f.method.pool[i.A])
	case api.Ret, api.RetVal:
		comes = m.giveBack(t, f, i.Op)
	case api.Throw:
		comes = m.throwTop(t, f)
	case api.Cast, api.Is:
		comes = m.ask(f, i)
	case api.Enter:
		comes = m.enter(t, f, i.A)
	case api.Exit:
		m.exit(t, f)
	case api.Wait:
		comes = m.wait(t, f)
	case api.Notify, api.NotifyAll:
		comes = m.notify(t, f, i.Op == api.NotifyAll)
	case api.Spawn:
		comes = m.spawn(t, f, f.method.pool[i.A].name)
	case api.Join:
		comes = m.join(t, f)
	case api.Out, api.OutC:
		m.out(t, f, i.Op)
	}
	switch comes {
	case done:
		f.pc++
	case placed:
	default:
		m.fail(t, comes)
	}
	return
jump:
	f.pc = i.A
}

// move: what no instruction but these does with locals and the stack.
func (f *frame) move(i api.Ins) {
	switch i.Op {
	case api.PushInt, api.PushCplx:
		f.push(f.method.pool[i.A].value)
	case api.Null:
		f.push(reference(api.TNull, 0))
	case api.Load:
		f.push(f.locals[i.A])
	case api.Store:
		f.locals[i.A] = f.pop()
	case api.Pop:
		f.pop()
	case api.Dup:
		f.push(f.under(0))
	}
}

func (f *frame) reckon(op int) int {
	b := f.under(0).Int
	if op == api.Neg {
		f.put(integer(num.Neg(b)), 1)
		return done
	}
	a := f.under(1).Int
	result, err := int64(0), api.OK
	switch op {
	case api.Add:
		result = num.Add(a, b)
	case api.Sub:
		result = num.Sub(a, b)
	case api.Mul:
		result = num.Mul(a, b)
	case api.Div:
		result, err = num.Div(a, b)
	case api.Rem:
		result, err = num.Rem(a, b)
	case api.Less:
		result = num.Less(a, b)
	case api.Same:
		result = num.Same(a, b)
	}
	if err != api.OK {
		return api.FArith
	}
	f.put(integer(result), 2)
	return done
}

func (f *frame) reckonComplex(op int) {
	b := f.under(0).Cplx
	if op == api.CConj {
		f.put(complexNumber(cplx.Conj(b)), 1)
		return
	}
	a := f.under(1).Cplx
	switch op {
	case api.CAdd:
		f.put(complexNumber(cplx.Add(a, b)), 2)
	case api.CSub:
		f.put(complexNumber(cplx.Sub(a, b)), 2)
	case api.CMul:
		f.put(complexNumber(cplx.Mul(a, b)), 2)
	case api.CSame:
		f.put(truth(cplx.Same(a, b)), 2)
	}
}

// ask: of which class an object is. Nothing is taken of a Cast that fails.
func (m *Machine) ask(f *frame, i api.Ins) int {
	at, class := f.under(0).Ref, f.method.pool[i.A].class
	is := at != 0 && m.isOf(at, class)
	if i.Op == api.Is {
		f.put(truth(is), 1)
		return done
	}
	if at != 0 && !is {
		return api.FCast
	}
	return done
}

func (m *Machine) call(t *thread, f *frame, k constant) int {
	at := f.under(k.takes - 1).Ref
	if at == 0 {
		return api.FNull
	}
	if len(t.frames) == api.MaxDepth {
		return api.FDepth
	}
	t.call(m.called(at, k.name), f.take(k.takes))
	return placed
}

// giveBack: the frame's result, if it has one, is its caller's, which goes on; without a caller the thread ends.
func (m *Machine) giveBack(t *thread, f *frame, op int) int {
	t.leave()
	if len(t.frames) == 0 {
		m.end(t, api.Event{Thread: t.id, Kind: api.EEnd})
		return placed
	}
	caller := t.last()
	if op == api.RetVal {
		caller.push(f.pop())
	}
	caller.pc++
	return placed
}

func (m *Machine) out(t *thread, f *frame, op int) {
	v := f.pop()
	if op == api.OutC {
		m.note(api.Event{Thread: t.id, Kind: api.EOutC, Cplx: v.Cplx})
		return
	}
	m.note(api.Event{Thread: t.id, Kind: api.EOut, Int: v.Int})
}
