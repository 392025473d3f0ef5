package verify

import (
	"loom/api"
)

// run: the state behind an instruction; an error, if it may not run in its own.
func (f *flow) run(at int) (api.State, api.Errno) {
	if err := f.mayRun(at); err != api.OK {
		return api.State{}, err
	}
	i, r, s := f.method.Code[at], f.rules[at], copyState(f.states[at])
	left := len(s.Stack) - len(r.takes)
	puts := r.puts
	switch i.Op {
	case api.Load:
		puts = []api.Type{s.Locals[i.A]}
	case api.Store:
		s.Locals[i.A] = s.Stack[left]
	case api.Dup:
		puts = []api.Type{s.Stack[left], s.Stack[left]}
	}
	s.Stack = append(s.Stack[:left], puts...)
	return s, api.OK
}

// mayRun: whether the state of an instruction has what it takes.
func (f *flow) mayRun(at int) api.Errno {
	r, s := f.rules[at], f.states[at]
	if r.never {
		return api.ErrType
	}
	left := len(s.Stack) - len(r.takes)
	if left < 0 {
		return api.ErrStack
	}
	for place, want := range r.takes {
		if !f.fits(s.Stack[left+place], want) {
			return api.ErrType
		}
	}
	return f.mayRead(f.method.Code[at], s.Locals)
}

func (f *flow) fits(have, want api.Type) bool {
	if want.Kind == reference {
		return have.Kind == api.TArr || have.Kind == api.TRef || have.Kind == api.TNull
	}
	return f.hier.Fits(have, want)
}

// mayRead: whether the local that an instruction reads, if it reads one, is what it asks for.
func (f *flow) mayRead(i api.Ins, locals []api.Type) api.Errno {
	if i.Op != api.Load && i.Op != api.Enter && i.Op != api.Exit {
		return api.OK
	}
	if isTop(locals[i.A]) {
		return api.ErrUnset
	}
	if i.Op != api.Load && !f.fits(locals[i.A], of(api.TRef)[0]) {
		return api.ErrType
	}
	return api.OK
}
