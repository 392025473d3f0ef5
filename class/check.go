package class

import (
	"slices"

	"loom/api"
	"loom/code"
)

// What code.Operand tells of an operand.
const (
	aLocal        = 1
	aConstant     = 2
	anInstruction = 3
)

// anyClass: in a handler's Class, where it takes whatever is thrown.
const anyClass = -1

// Check: the error of the first thing, in the chapter's order, that c may not have.
func Check(c api.Class) api.Errno {
	if !IsName(c.Name) || c.Super != "" && !IsName(c.Super) {
		return api.ErrName
	}
	if err := each(c.Pool, api.MaxPool, checkConst); err != api.OK {
		return err
	}
	if err := each(c.Fields, api.MaxFields, checkField); err != api.OK {
		return err
	}
	return each(c.Methods, api.MaxMethods, func(m api.Method, ahead []api.Method) api.Errno {
		if err := checkFace(m, ahead); err != api.OK {
			return err
		}
		return checkBody(m, c.Pool)
	})
}

// each asks of every one of a list, with those ahead of it, until one is refused; a list of more than most is refused whole.
func each[T any](list []T, most int, ask func(one T, ahead []T) api.Errno) api.Errno {
	if len(list) > most {
		return api.ErrBig
	}
	at := 0
next:
	if at == len(list) {
		return api.OK
	}
	if err := ask(list[at], list[:at]); err != api.OK {
		return err
	}
	at++
	goto next
}

func checkConst(k api.Const, _ []api.Const) api.Errno {
	own := ownParts(k.Kind)
	if own == 0 || partsOf(k)&^own != 0 {
		return api.ErrConst
	}
	if own&partClass != 0 && !IsName(k.Class) || own&partName != 0 && !IsName(k.Name) {
		return api.ErrName
	}
	return api.OK
}

// partsOf: the parts of k that aren't zero.
func partsOf(k api.Const) int {
	parts := 0
	if k.Int != 0 {
		parts |= partInt
	}
	if !sameBits(k.Cplx, 0) {
		parts |= partCplx
	}
	if k.Class != "" {
		parts |= partClass
	}
	if k.Name != "" {
		parts |= partName
	}
	return parts
}

func checkField(f api.Field, ahead []api.Field) api.Errno {
	if !IsName(f.Name) || !IsType(f.Type, false) {
		return api.ErrName
	}
	if slices.ContainsFunc(ahead, func(other api.Field) bool { return other.Name == f.Name }) {
		return api.ErrTwice
	}
	return api.OK
}

// checkFace: what a method shows to those that call it.
func checkFace(m api.Method, ahead []api.Method) api.Errno {
	if !IsName(m.Name) {
		return api.ErrName
	}
	if err := each(m.Params, api.MaxParams, checkParam); err != api.OK {
		return err
	}
	if !IsType(m.Ret, true) {
		return api.ErrName
	}
	if slices.ContainsFunc(ahead, func(other api.Method) bool { return other.Name == m.Name }) {
		return api.ErrTwice
	}
	return api.OK
}

func checkParam(t api.Type, _ []api.Type) api.Errno {
	if !IsType(t, false) {
		return api.ErrName
	}
	return api.OK
}

// checkBody: what a method keeps to itself.
func checkBody(m api.Method, pool []api.Const) api.Errno {
	// The receiver takes a local too.
	if m.Locals < 1+len(m.Params) || m.Locals > api.MaxLocals || m.Stack < 0 || m.Stack > api.MaxStack {
		return api.ErrBig
	}
	if len(m.Code) == 0 {
		return api.ErrBig
	}
	err := each(m.Code, api.MaxCode, func(i api.Ins, _ []api.Ins) api.Errno { return checkIns(i, m, pool) })
	if err != api.OK {
		return err
	}
	if !code.Stops(m.Code[len(m.Code)-1].Op) {
		return api.ErrTail
	}
	return each(m.Handlers, api.MaxHandlers, func(h api.Handler, _ []api.Handler) api.Errno { return checkHandler(h, len(m.Code), pool) })
}

func checkIns(i api.Ins, m api.Method, pool []api.Const) api.Errno {
	if !code.Is(i) {
		return api.ErrOp
	}
	switch code.Operand(i.Op) {
	case aLocal:
		if i.A >= m.Locals {
			return api.ErrTarget
		}
	case aConstant:
		if !isConst(pool, i.A, askedKind(i.Op)) {
			return api.ErrConst
		}
	case anInstruction:
		if i.A >= len(m.Code) {
			return api.ErrTarget
		}
	}
	return api.OK
}

// askedKind: the kind of constant that the operand of op names.
func askedKind(op int) int {
	switch op {
	case api.PushInt:
		return api.CInt
	case api.PushCplx:
		return api.CCplx
	case api.New, api.Cast, api.Is:
		return api.CClass
	case api.GetField, api.PutField:
		return api.CField
	}
	return api.CMethod
}

// isConst: whether there is a constant of that number, of that kind.
func isConst(pool []api.Const, number, kind int) bool {
	return number >= 0 && number < len(pool) && pool[number].Kind == kind
}

// checkHandler: of a method of so many instructions.
func checkHandler(h api.Handler, count int, pool []api.Const) api.Errno {
	if h.From < 0 || h.From >= h.To || h.To > count || h.Target < 0 || h.Target >= count {
		return api.ErrTarget
	}
	if h.Class != anyClass && !isConst(pool, h.Class, api.CClass) {
		return api.ErrConst
	}
	if h.Depth < 0 || h.Depth > api.MaxLocks {
		return api.ErrBig
	}
	return api.OK
}
