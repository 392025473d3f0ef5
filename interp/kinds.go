package interp

import (
	"slices"

	"loom/api"
)

// effect of an instruction on the stack: how many it takes, the kind of what it puts (TVoid: nothing).
type effect struct{ takes, puts int }

// effects: what isn't here takes and puts nothing, or hangs on more than the op, as what Load, Dup, GetField and Call put, and what a Call takes.
var effects = [api.Ops]effect{
	api.PushInt:   {0, api.TInt},
	api.PushCplx:  {0, api.TCplx},
	api.Null:      {0, api.TNull},
	api.Store:     {1, api.TVoid},
	api.Pop:       {1, api.TVoid},
	api.Add:       {2, api.TInt},
	api.Sub:       {2, api.TInt},
	api.Mul:       {2, api.TInt},
	api.Div:       {2, api.TInt},
	api.Rem:       {2, api.TInt},
	api.Neg:       {1, api.TInt},
	api.Less:      {2, api.TInt},
	api.Same:      {2, api.TInt},
	api.CAdd:      {2, api.TCplx},
	api.CSub:      {2, api.TCplx},
	api.CMul:      {2, api.TCplx},
	api.CConj:     {1, api.TCplx},
	api.CSame:     {2, api.TInt},
	api.RSame:     {2, api.TInt},
	api.IfZero:    {1, api.TVoid},
	api.IfOne:     {1, api.TVoid},
	api.New:       {0, api.TRef},
	api.GetField:  {1, api.TVoid},
	api.PutField:  {2, api.TVoid},
	api.NewArr:    {1, api.TArr},
	api.ArrLen:    {1, api.TInt},
	api.ArrGet:    {2, api.TInt},
	api.ArrPut:    {3, api.TVoid},
	api.RetVal:    {1, api.TVoid},
	api.Throw:     {1, api.TVoid},
	api.Cast:      {1, api.TRef},
	api.Is:        {1, api.TInt},
	api.Wait:      {1, api.TVoid},
	api.Notify:    {1, api.TVoid},
	api.NotifyAll: {1, api.TVoid},
	api.Spawn:     {1, api.TInt},
	api.Join:      {1, api.TVoid},
	api.Out:       {1, api.TVoid},
	api.OutC:      {1, api.TVoid},
}

// kinds: of the locals and of the stack's places at an instruction. They are found here once more, as no layer that this one may call tells which locals are TTop: maps tell references alone. Classes don't matter: two objects are never TTop together, whatever they are.
type kinds struct {
	reached       bool
	locals, stack []int
}

// flow: the kinds at each instruction of a method, which rise until none of them changes any more.
type flow struct {
	method *method
	ahead  []kinds // of each instruction
	raised []int   // instructions whose kinds have changed since they were passed; one may stand here twice
}

// topsOf: of each instruction of a method with those parameters which locals are TTop there.
func topsOf(m *method, params []api.Type) []uint64 {
	f := &flow{method: m, ahead: make([]kinds, len(m.code))}
	f.come(0, entry(m.locals, params))
	f.settle()
	tops := make([]uint64, len(m.code))
	for pc, k := range f.ahead {
		for local, kind := range k.locals {
			if kind == api.TTop {
				tops[pc] |= 1 << local
			}
		}
	}
	return tops
}

// entry: the receiver, the parameters, and what nobody has set yet.
func entry(locals int, params []api.Type) kinds {
	k := kinds{locals: []int{api.TRef}}
	for _, t := range params {
		k.locals = append(k.locals, t.Kind)
	}
	for len(k.locals) < locals {
		k.locals = append(k.locals, api.TTop)
	}
	return k
}

// settle ends: kinds rise only so often.
func (f *flow) settle() {
next:
	if len(f.raised) == 0 {
		return
	}
	last := len(f.raised) - 1
	pc := f.raised[last]
	f.raised = f.raised[:last]
	f.pass(pc)
	goto next
}

// pass: what an instruction leaves is handed on to all that may come next; its handlers get the locals that it began with.
func (f *flow) pass(pc int) {
	i := f.method.code[pc]
	behind := f.behind(pc)
	switch i.Op {
	case api.Goto:
		f.come(i.A, behind)
	case api.IfZero, api.IfOne:
		f.come(i.A, behind)
		f.come(pc+1, behind)
	case api.Ret, api.RetVal, api.Throw:
	default:
		f.come(pc+1, behind)
	}
	for _, h := range f.method.handlers {
		if pc >= h.From && pc < h.To {
			f.come(h.Target, kinds{locals: f.ahead[pc].locals, stack: []int{api.TRef}})
		}
	}
}

// behind: the kinds behind an instruction, in lists of their own.
func (f *flow) behind(pc int) kinds {
	i, ahead := f.method.code[pc], f.ahead[pc]
	k := kinds{locals: slices.Clone(ahead.locals), stack: slices.Clone(ahead.stack)}
	top := len(k.stack) - 1
	does := effects[i.Op]
	switch i.Op {
	case api.Load:
		does.puts = k.locals[i.A]
	case api.Store:
		k.locals[i.A] = k.stack[top]
	case api.Dup:
		does.puts = k.stack[top]
	case api.GetField:
		does.puts = f.method.pool[i.A].slot.Field.Type.Kind
	case api.Call:
		does = effect{f.method.pool[i.A].takes, f.method.pool[i.A].gives}
	}
	k.stack = k.stack[:len(k.stack)-does.takes]
	if does.puts != api.TVoid {
		k.stack = append(k.stack, does.puts)
	}
	return k
}

// come: one may come to an instruction with these kinds, too.
func (f *flow) come(pc int, k kinds) {
	to := &f.ahead[pc]
	changed := !to.reached
	if changed {
		*to = kinds{reached: true, locals: slices.Clone(k.locals), stack: slices.Clone(k.stack)}
	}
	locals, stack := raise(to.locals, k.locals), raise(to.stack, k.stack)
	if changed || locals || stack {
		f.raised = append(f.raised, pc)
	}
}

// raise: one list becomes what both have in common; whether that changed it.
func raise(list, by []int) bool {
	changed := false
	for at, kind := range by {
		if both := meet(list[at], kind); both != list[at] {
			list[at] = both
			changed = true
		}
	}
	return changed
}

// meet: null goes with what may be null, all others with their own kind alone.
func meet(a, b int) int {
	switch {
	case a == b:
		return a
	case a == api.TNull && (b == api.TArr || b == api.TRef):
		return b
	case b == api.TNull && (a == api.TArr || a == api.TRef):
		return a
	}
	return api.TTop
}
