package roots

import (
	"math/rand"
	"slices"
	"strings"
	"testing"

	"loom/api"
	"loom/locks"
)

// writer of methods that mostly are accepted: it keeps to what it believes to be in locals: int, cplx, arr, ref, null, or - (not to be read).
type writer struct {
	random *rand.Rand
	method api.Method
	locals []string
	stored [][2]int // all stores: a local, the kind's place in kinds
	height int      // how many are on the stack while a block runs
	left   int      // so many parts may still be written
}

var kinds = strings.Fields("int cplx arr ref null")

func (w *writer) emit(op int, operand string) int {
	i := api.Ins{Op: op}
	if operand != "" {
		i.A = slices.Index(constants, operand)
	}
	w.method.Code = append(w.method.Code, i)
	return len(w.method.Code) - 1
}

func (w *writer) local(op, local int) {
	w.method.Code[w.emit(op, "")].A = local
}

func (w *writer) here() int { return len(w.method.Code) }

// jump: to where nobody knows yet; what it tells says it.
func (w *writer) jump(op int) func() {
	at := w.emit(op, "")
	return func() { w.method.Code[at].A = w.here() }
}

func (w *writer) fork() func() {
	w.emit(api.PushInt, "7")
	return w.jump([]int{api.IfZero, api.IfOne}[w.random.Intn(2)])
}

// push: some value; its kind.
func (w *writer) push() string {
	switch w.random.Intn(7) {
	case 0:
		w.emit(api.PushInt, []string{"7", "2", "-1"}[w.random.Intn(3)])
		return "int"
	case 1:
		w.emit(api.PushCplx, "7i")
		return "cplx"
	case 2:
		w.emit(api.PushInt, "7")
		w.emit(api.NewArr, "")
		return "arr"
	case 3:
		w.emit(api.Null, "")
		return "null"
	case 4:
		w.emit(api.New, "A")
		w.emit(api.Call, "A.give()")
		return "ref"
	}
	w.emit(api.New, []string{"A", "B", "C"}[w.random.Intn(3)])
	return "ref"
}

// use: what is on the stack's top, of that kind, is taken.
func (w *writer) use(kind string) {
	switch kind {
	case "int":
		w.emit(api.Out, "")
	case "cplx":
		w.emit(api.OutC, "")
	case "arr":
		w.emit(api.ArrLen, "")
		w.emit(api.Out, "")
	case "ref":
		w.emit(api.Cast, "A")
		w.emit(api.GetField, "A.o")
		w.emit(api.Pop, "")
	default:
		w.emit(api.Pop, "")
	}
}

func (w *writer) store(kind string) {
	local := w.random.Intn(len(w.locals))
	w.local(api.Store, local)
	w.locals[local] = kind
	w.stored = append(w.stored, [2]int{local, slices.Index(kinds, kind)})
}

// both: what may be said of a local that is one of two.
func both(one, other string) string {
	switch {
	case one == other:
		return one
	case one == "null" && (other == "arr" || other == "ref"):
		return other
	case other == "null" && (one == "arr" || one == "ref"):
		return one
	}
	return "-"
}

func (w *writer) meet(locals []string) {
	for at, kind := range locals {
		w.locals[at] = both(w.locals[at], kind)
	}
}

func (w *writer) block() {
	for range 1 + w.random.Intn(4) {
		if w.left == 0 || w.here() > 150 {
			return
		}
		w.left--
		w.part()
	}
}

func (w *writer) part() {
	switch w.random.Intn(12) {
	case 0, 1, 2:
		w.store(w.push())
	case 3, 4, 5:
		w.read()
	case 6:
		w.kept()
	case 7:
		over, ahead := w.fork(), slices.Clone(w.locals)
		w.block()
		over()
		w.meet(ahead)
	case 8:
		w.either()
	case 9:
		top := w.here()
		ahead := slices.Clone(w.locals)
		w.emit(api.Nop, "")
		w.block()
		w.emit(api.PushInt, "7")
		w.local(api.IfOne, top)
		w.meet(ahead)
	case 10:
		w.guarded()
	default:
		w.emit([]int{api.Nop, api.Yield}[w.random.Intn(2)], "")
	}
}

// read: a local that may be read, by its value or by a lock.
func (w *writer) read() {
	local := w.random.Intn(len(w.locals))
	kind := w.locals[local]
	switch {
	case kind == "-":
		w.emit(api.Nop, "")
	case kind == "ref" && w.random.Intn(3) == 0:
		w.local(api.Enter, local)
		w.emit(api.Nop, "")
		w.local(api.Exit, local)
	case kind == "ref" && w.random.Intn(3) == 0:
		// An object that only another one has.
		w.local(api.Load, local)
		w.emit(api.Cast, "A")
		w.emit(api.New, "B")
		w.emit(api.PutField, "A.o")
	default:
		w.local(api.Load, local)
		w.use(kind)
	}
}

// kept: a value below all that a block does with the stack.
func (w *writer) kept() {
	if w.height > 8 {
		return
	}
	kind := w.push()
	w.height++
	w.block()
	w.height--
	w.use(kind)
}

// either: one of two blocks; a value that one of them, or the other, put.
func (w *writer) either() {
	ahead := slices.Clone(w.locals)
	other := w.fork()
	w.block()
	w.emit(api.New, "A")
	over := w.jump(api.Goto)
	behind := w.locals
	w.locals = ahead
	other()
	w.block()
	w.emit(api.Null, "")
	over()
	w.meet(behind)
	w.store("ref")
}

// guarded: a block with a handler, which begins with what any instruction of the block may have left in locals.
func (w *writer) guarded() {
	if w.height > 0 {
		return
	}
	begin, count := slices.Clone(w.locals), len(w.stored)
	h := api.Handler{From: w.here(), Class: -1}
	w.emit(api.Nop, "")
	w.block()
	h.To = w.here()
	over, behind := w.jump(api.Goto), w.locals
	w.locals = begin
	for _, s := range w.stored[count:] {
		w.locals[s[0]] = both(w.locals[s[0]], kinds[s[1]])
	}
	h.Target = w.here()
	if w.random.Intn(2) == 0 {
		h.Class = slices.Index(constants, []string{"Fault", "A", "Object"}[w.random.Intn(3)])
	}
	if len(w.method.Handlers) < api.MaxHandlers {
		w.method.Handlers = append(w.method.Handlers, h)
	}
	w.store("ref")
	w.block()
	over()
	w.meet(behind)
}

// written: one of many methods, the same for the same number.
func written(number int) api.Method {
	w := writer{random: rand.New(rand.NewSource(int64(number)))}
	w.method = api.Method{Name: "it", Params: typesOf("int cplx arr A"), Locals: 5 + w.random.Intn(4), Stack: 16}
	w.locals = strings.Fields("ref int cplx arr ref")
	for len(w.locals) < w.method.Locals {
		w.locals = append(w.locals, "-")
	}
	w.left = 2 + w.random.Intn(30)
	for w.left > 0 && w.here() <= 150 {
		w.block()
	}
	w.emit(api.Ret, "")
	if w.random.Intn(5) == 0 {
		w.emit(api.Pop, "")
		w.emit(api.Ret, "")
	}
	return w.method
}

// What is told of each instruction is what locks.Method has; of what isn't accepted there are no maps.
func TestMapsAreThoseOfTheStates(t *testing.T) {
	accepted, handled := 0, 0
	const count = 3000
	for number := range count {
		m := written(number)
		p := linked(t, world(m))
		maps, err := Of(p)
		states, refusal := locks.Method(p, "Main", "it")
		if err != refusal || err != api.OK && maps != nil {
			t.Fatalf("P10.1: method %d: %d, not %d", number, err, refusal)
		}
		if err != api.OK {
			continue
		}
		if got, want := tellAll(maps, "Main", "it", len(m.Code)), tellStates(states); got != want {
			t.Fatalf("P10.1: method %d: %s:\n%s, not\n%s", number, codeText(m), got, want)
		}
		accepted++
		if len(m.Handlers) > 0 {
			handled++
		}
	}
	// Enough of them, or nothing is said.
	if accepted < count/3 || accepted == count || handled < count/10 {
		t.Errorf("%d of %d are accepted, %d of them with handlers", accepted, count, handled)
	}
}
