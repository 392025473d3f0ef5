package verify

import (
	"slices"

	"loom/api"
	"loom/code"
	"loom/link"
	"loom/types"
)

// flow: the states of a method's instructions, which rise from Entry, and nothing else, until none of them changes any more.
type flow struct {
	hier    *types.Hier
	method  api.Method
	pool    []api.Const
	rules   []rule // by instructions, as the two below
	states  []api.State
	changed []bool // whether the state has changed since the instruction last ran
}

func newFlow(p *link.Program, c api.Class, m api.Method) *flow {
	count := len(m.Code)
	f := &flow{
		hier:    p.Hier(),
		method:  m,
		pool:    c.Pool,
		rules:   make([]rule, count),
		states:  make([]api.State, count),
		changed: make([]bool, count),
	}
	for at, i := range m.Code {
		f.rules[at] = ruleOf(p, c.Pool, m, i)
	}
	f.states[0], f.changed[0] = Entry(c.Name, m), true
	return f
}

// settle runs instructions, round after round along the code, until no state changes any more, or one may not be.
// It ends: a state rises only so often.
func (f *flow) settle() api.Errno {
	at := 0
again:
	if !slices.Contains(f.changed, true) {
		return api.OK
	}
	if f.changed[at] {
		f.changed[at] = false
		// What can't be in a state can't be in a higher one either: no need to wait for the last one.
		if err := f.step(at); err != api.OK {
			return err
		}
	}
	at = (at + 1) % len(f.changed)
	goto again
}

// step runs one instruction, and hands what comes of it on to all that may come next.
func (f *flow) step(at int) api.Errno {
	i := f.method.Code[at]
	behind, err := f.run(at)
	if err == api.OK && !code.Stops(i.Op) {
		err = f.reach(at+1, behind)
	}
	if err == api.OK && code.Jumps(i.Op) {
		err = f.reach(i.A, behind)
	}
	if err != api.OK {
		return err
	}
	return f.handle(at)
}

// handle: a handler begins with the locals ahead of the instruction, whatever that would have done to them.
func (f *flow) handle(at int) api.Errno {
	for _, h := range f.method.Handlers {
		if at < h.From || at >= h.To {
			continue
		}
		thrown := api.State{Reached: true, Locals: f.states[at].Locals, Stack: []api.Type{f.thrownTo(h)}}
		if err := f.reach(h.Target, thrown); err != api.OK {
			return err
		}
	}
	return api.OK
}

// thrownTo: what a handler is handed.
func (f *flow) thrownTo(h api.Handler) api.Type {
	if h.Class < 0 {
		return api.Type{Kind: api.TRef, Class: "Object"}
	}
	return api.Type{Kind: api.TRef, Class: f.pool[h.Class].Class}
}

// reach: one may come to instruction at in state s, too.
func (f *flow) reach(at int, s api.State) api.Errno {
	if len(s.Stack) > f.method.Stack {
		return api.ErrStack
	}
	to := &f.states[at]
	if !to.Reached {
		*to = copyState(s)
		f.changed[at] = true
		return api.OK
	}
	if len(to.Stack) != len(s.Stack) {
		return api.ErrStack
	}
	locals, stack := f.raise(to.Locals, s.Locals), f.raise(to.Stack, s.Stack)
	if slices.ContainsFunc(to.Stack, isTop) {
		return api.ErrType
	}
	f.changed[at] = f.changed[at] || locals || stack
	return api.OK
}

// raise merges the types of one list into those of another; whether that changed them.
func (f *flow) raise(list, by []api.Type) bool {
	changed := false
	for at, t := range by {
		if merged := f.hier.Merge(list[at], t); merged != list[at] {
			list[at] = merged
			changed = true
		}
	}
	return changed
}

func isTop(t api.Type) bool { return t.Kind == api.TTop }

func copyState(s api.State) api.State {
	s.Locals, s.Stack = slices.Clone(s.Locals), slices.Clone(s.Stack)
	return s
}
