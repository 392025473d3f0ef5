package verify

import (
	"loom/api"
	"loom/link"
)

// reference: a kind that is asked for, but that nothing has: what is an object, an array or null.
const reference = api.TTop + 1

// rule: what an instruction takes and puts in whatever state; run adds what hangs on the state.
type rule struct {
	never bool       // it may run in no state
	takes []api.Type // what those on the stack must fit, the top last
	puts  []api.Type
}

// of: types of those kinds, a TRef one of Object, which all objects and null fit; TTop is what anything fits.
func of(kinds ...int) []api.Type {
	list := make([]api.Type, len(kinds))
	for at, kind := range kinds {
		list[at].Kind = kind
		if kind == api.TRef {
			list[at].Class = "Object"
		}
	}
	return list
}

// ruleOf: of an instruction of a method m of a class with that pool.
func ruleOf(p *link.Program, pool []api.Const, m api.Method, i api.Ins) rule {
	switch i.Op {
	case api.New, api.Cast, api.Is:
		return classRule(i.Op, pool[i.A].Class)
	case api.GetField, api.PutField:
		return fieldRule(p, i.Op, pool[i.A])
	case api.Call, api.Spawn:
		return callRule(p, i.Op, pool[i.A])
	case api.Ret:
		return rule{never: m.Ret.Kind != api.TVoid}
	case api.RetVal:
		return rule{never: m.Ret.Kind == api.TVoid, takes: []api.Type{m.Ret}}
	}
	return plainRule(i.Op)
}

// plainRule: of an instruction that is alike in all methods.
func plainRule(op int) rule {
	switch op {
	case api.PushInt:
		return rule{puts: of(api.TInt)}
	case api.PushCplx:
		return rule{puts: of(api.TCplx)}
	case api.Null:
		return rule{puts: of(api.TNull)}
	case api.Store, api.Pop, api.Dup:
		return rule{takes: of(api.TTop)}
	case api.Add, api.Sub, api.Mul, api.Div, api.Rem, api.Less, api.Same:
		return rule{takes: of(api.TInt, api.TInt), puts: of(api.TInt)}
	case api.Neg:
		return rule{takes: of(api.TInt), puts: of(api.TInt)}
	case api.CAdd, api.CSub, api.CMul:
		return rule{takes: of(api.TCplx, api.TCplx), puts: of(api.TCplx)}
	case api.CConj:
		return rule{takes: of(api.TCplx), puts: of(api.TCplx)}
	case api.CSame:
		return rule{takes: of(api.TCplx, api.TCplx), puts: of(api.TInt)}
	case api.RSame:
		return rule{takes: of(reference, reference), puts: of(api.TInt)}
	case api.NewArr:
		return rule{takes: of(api.TInt), puts: of(api.TArr)}
	case api.ArrLen:
		return rule{takes: of(api.TArr), puts: of(api.TInt)}
	case api.ArrGet:
		return rule{takes: of(api.TArr, api.TInt), puts: of(api.TInt)}
	case api.ArrPut:
		return rule{takes: of(api.TArr, api.TInt, api.TInt)}
	case api.Throw, api.Wait, api.Notify, api.NotifyAll:
		return rule{takes: of(api.TRef)}
	case api.IfZero, api.IfOne, api.Join, api.Out:
		return rule{takes: of(api.TInt)}
	case api.OutC:
		return rule{takes: of(api.TCplx)}
	}
	return rule{}
}

func classRule(op int, class string) rule {
	object := api.Type{Kind: api.TRef, Class: class}
	switch op {
	case api.New:
		return rule{puts: []api.Type{object}}
	case api.Cast:
		return rule{takes: of(api.TRef), puts: []api.Type{object}}
	}
	return rule{takes: of(api.TRef), puts: of(api.TInt)}
}

// fieldRule: Link has seen to it that there is such a field.
func fieldRule(p *link.Program, op int, k api.Const) rule {
	object := api.Type{Kind: api.TRef, Class: k.Class}
	slot, _ := p.Field(k.Class, k.Name)
	if op == api.GetField {
		return rule{takes: []api.Type{object}, puts: []api.Type{slot.Field.Type}}
	}
	return rule{takes: []api.Type{object, slot.Field.Type}}
}

// callRule: Link has seen to it that there is such a method.
func callRule(p *link.Program, op int, k api.Const) rule {
	object := api.Type{Kind: api.TRef, Class: k.Class}
	_, m, _ := p.Method(k.Class, k.Name)
	if op == api.Spawn {
		return rule{never: len(m.Params) > 0 || m.Ret.Kind != api.TVoid, takes: []api.Type{object}, puts: of(api.TInt)}
	}
	r := rule{takes: append([]api.Type{object}, m.Params...)}
	if m.Ret.Kind != api.TVoid {
		r.puts = []api.Type{m.Ret}
	}
	return r
}
