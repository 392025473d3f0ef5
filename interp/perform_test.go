package interp

import (
	"math"
	"slices"

	"loom/api"
)

func intDatum(n int64) datum { return datum{kind: api.TInt, number: n} }

func boolDatum(is bool) datum {
	if is {
		return intDatum(1)
	}
	return intDatum(0)
}

// perform: the instruction that a thread stands at, as the model has it.
func (d *model) perform(a *actor) {
	f := a.last()
	i := f.method.Code[f.pc]
	d.ran[i.Op]++
	var k api.Const
	if pool := d.classes[f.class].Pool; i.A < len(pool) {
		k = pool[i.A]
	}
	// arg: what is on the stack, from its top on; then: so many are taken, these are put, and the thread goes on.
	arg := func(n int) datum { return f.stack[len(f.stack)-1-n] }
	then := func(takes int, put ...datum) {
		f.stack = append(slices.Clone(f.stack[:len(f.stack)-takes]), put...)
		f.pc++
	}
	switch i.Op {
	case api.Nop, api.Yield:
		then(0)
	case api.PushInt:
		then(0, intDatum(k.Int))
	case api.PushCplx:
		then(0, datum{kind: api.TCplx, cplx: k.Cplx})
	case api.Null:
		then(0, datum{kind: api.TNull})
	case api.Load:
		then(0, f.locals[i.A])
	case api.Store:
		f.locals[i.A] = arg(0)
		then(1)
	case api.Pop:
		then(1)
	case api.Dup:
		then(0, arg(0))
	case api.Add, api.Sub, api.Mul, api.Div, api.Rem, api.Less, api.Same:
		if n, ok := sums(i.Op, arg(1).number, arg(0).number); ok {
			then(2, intDatum(n))
		} else {
			d.fault(a, api.FArith)
		}
	case api.Neg:
		then(1, intDatum(-arg(0).number))
	case api.CAdd, api.CSub, api.CMul:
		then(2, datum{kind: api.TCplx, cplx: complexSums(i.Op, arg(1).cplx, arg(0).cplx)})
	case api.CConj:
		c := arg(0).cplx
		then(1, datum{kind: api.TCplx, cplx: complex(real(c), -imag(c))})
	case api.CSame:
		x, y := arg(0).cplx, arg(1).cplx
		then(2, boolDatum(sameFloat(real(x), real(y)) && sameFloat(imag(x), imag(y))))
	case api.RSame:
		then(2, boolDatum(arg(0).to == arg(1).to))
	case api.Goto:
		f.pc = i.A
	case api.IfZero, api.IfOne:
		zero := arg(0).number == 0
		then(1)
		if zero && i.Op == api.IfZero || !zero && i.Op == api.IfOne {
			f.pc = i.A
		}
	case api.New:
		if o := d.make(a, k.Class, d.blank(k.Class)); o != nil {
			then(0, datum{kind: api.TRef, to: o})
		}
	case api.Out:
		d.note(api.Event{Thread: a.id, Kind: api.EOut, Int: arg(0).number})
		then(1)
	case api.OutC:
		d.note(api.Event{Thread: a.id, Kind: api.EOutC, Cplx: arg(0).cplx})
		then(1)
	case api.GetField, api.PutField, api.ArrLen, api.ArrGet, api.ArrPut, api.NewArr, api.Cast, api.Is:
		if code := d.ofThings(a, f, i.Op, k, arg, then); code != 0 {
			d.fault(a, code)
		}
	default:
		if code := d.ofThreads(a, f, i, k, arg, then); code != 0 {
			d.fault(a, code)
		}
	}
}

func sums(op int, x, y int64) (int64, bool) {
	switch op {
	case api.Add:
		return x + y, true
	case api.Sub:
		return x - y, true
	case api.Mul:
		return x * y, true
	case api.Less:
		return boolDatum(x < y).number, true
	case api.Same:
		return boolDatum(x == y).number, true
	}
	switch {
	case y == 0:
		return 0, false
	case op == api.Div:
		return x / y, true
	}
	return x % y, true
}

func complexSums(op int, x, y complex128) complex128 {
	switch op {
	case api.CAdd:
		return complex(real(x)+real(y), imag(x)+imag(y))
	case api.CSub:
		return complex(real(x)-real(y), imag(x)-imag(y))
	}
	return complex(float64(real(x)*real(y))-float64(imag(x)*imag(y)), float64(real(x)*imag(y))+float64(imag(x)*real(y)))
}

func sameFloat(x, y float64) bool {
	return math.Float64bits(x) == math.Float64bits(y) || x != x && y != y
}

type args = func(n int) datum

type then = func(takes int, put ...datum)

// ofThings: a fault's code, or 0.
func (d *model) ofThings(a *actor, f *activation, op int, k api.Const, arg args, then then) int {
	o := arg(0).to
	switch op {
	case api.NewArr:
		n := arg(0).number
		if n < 0 || n > 100 {
			return api.FSize
		}
		if o := d.make(a, "ints", slices.Repeat([]datum{intDatum(0)}, int(n))); o != nil {
			then(1, datum{kind: api.TArr, to: o})
		}
		return 0
	case api.Cast:
		if o != nil && !d.below(o, k.Class) {
			return api.FCast
		}
		then(0)
		return 0
	case api.Is:
		then(1, boolDatum(o != nil && d.below(o, k.Class)))
		return 0
	}
	takes := map[int]int{api.GetField: 1, api.PutField: 2, api.ArrLen: 1, api.ArrGet: 2, api.ArrPut: 3}[op]
	o = arg(takes - 1).to
	if o == nil {
		return api.FNull
	}
	if op == api.GetField || op == api.PutField {
		d.ofField(a, o, op, k, arg, then)
		return 0
	}
	if op == api.ArrLen {
		then(1, intDatum(int64(len(o.values))))
		return 0
	}
	n := arg(takes - 2).number
	if n < 0 || n >= int64(len(o.values)) {
		return api.FBounds
	}
	if op == api.ArrGet {
		then(2, d.read(a, o, int(n)))
		return 0
	}
	d.write(a, o, int(n), arg(0))
	then(3)
	return 0
}

func (d *model) ofField(a *actor, o *thing, op int, k api.Const, arg args, then then) {
	n, field := d.field(k.Class, k.Name)
	if field.Volatile {
		d.flush(a)
	}
	switch {
	case op == api.GetField:
		then(1, d.read(a, o, n))
	case field.Volatile:
		o.values[n] = arg(0)
		then(2)
	default:
		d.write(a, o, n, arg(0))
		then(2)
	}
}

// ofThreads: a fault's code, or 0.
func (d *model) ofThreads(a *actor, f *activation, i api.Ins, k api.Const, arg args, then then) int {
	switch i.Op {
	case api.Enter:
		o := f.locals[i.A].to
		if o == nil {
			return api.FNull
		}
		if d.enters(a, o) {
			f.held = append(slices.Clone(f.held), i.A)
			then(0)
		}
	case api.Exit:
		d.exits(a, f, len(f.held)-1)
		then(0)
	case api.Wait, api.Notify, api.NotifyAll:
		o := arg(0).to
		switch {
		case o == nil:
			return api.FNull
		case o.owner != a:
			return api.FState
		case i.Op == api.Wait:
			then(1)
			f.pc--
			d.waits(a, o)
		default:
			then(1)
			d.notifies(o, i.Op == api.NotifyAll)
		}
	case api.Throw:
		if arg(0).to == nil {
			return api.FNull
		}
		d.throw(a, arg(0).to)
	case api.Join:
		n := arg(0).number
		if n < 1 || n > int64(len(d.actors)) {
			return api.FBounds
		}
		then(1)
		if other := d.actors[n-1]; other.state != api.Ended {
			f.pc--
			a.state, a.joins = api.Joining, other
		}
	default:
		return d.ofCalls(a, f, i.Op, k, arg, then)
	}
	return 0
}

func (d *model) waits(a *actor, o *thing) {
	d.flush(a)
	a.state = api.Waiting
	o.fat = true
	o.waiting = append(slices.Clone(o.waiting), stander{a, o.count})
	d.next(o)
}

func (d *model) notifies(o *thing, all bool) {
	for len(o.waiting) > 0 {
		o.waiting[0].who.state = api.Blocked
		o.entry = append(slices.Clone(o.entry), o.waiting[0])
		o.waiting = slices.Clone(o.waiting[1:])
		if !all {
			return
		}
	}
}

// ofCalls: a fault's code, or 0.
func (d *model) ofCalls(a *actor, f *activation, op int, k api.Const, arg args, then then) int {
	switch op {
	case api.Call:
		_, m := d.method(k.Class, k.Name)
		count := 1 + len(m.Params)
		o := arg(count - 1).to
		if o == nil {
			return api.FNull
		}
		if len(a.calls) == 20 {
			return api.FDepth
		}
		given := f.stack[len(f.stack)-count:]
		then(count)
		f.pc--
		d.begin(a, o, k.Name, given)
	case api.Spawn:
		o := arg(0).to
		if o == nil {
			return api.FNull
		}
		if len(d.actors) == 12 {
			d.note(api.Event{Thread: a.id, Kind: api.ELimit})
			d.over = true
			return 0
		}
		d.flush(a)
		b := &actor{id: len(d.actors) + 1, state: api.Ready}
		d.actors = append(d.actors, b)
		d.begin(b, o, k.Name, []datum{arg(0)})
		then(1, intDatum(int64(b.id)))
	case api.Ret, api.RetVal:
		a.calls = a.calls[:len(a.calls)-1]
		switch {
		case len(a.calls) == 0:
			d.end(a, api.Event{Thread: a.id, Kind: api.EEnd})
		default:
			caller := a.last()
			caller.pc++
			if op == api.RetVal {
				caller.stack = append(slices.Clone(caller.stack), arg(0))
			}
		}
	default:
		d.t.Fatalf("no instruction: %d", op)
	}
	return 0
}
