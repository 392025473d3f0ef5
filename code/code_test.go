package code

import (
	"math"
	"slices"
	"strconv"
	"testing"

	"loom/api"
)

// told: what the document says of one op.
type told struct {
	op      int
	name    string
	operand int
}

// allTold: every op, in the order of their numbers.
func allTold() []told {
	return []told{
		{api.Nop, "nop", 0}, {api.PushInt, "pushint", 2}, {api.PushCplx, "pushcplx", 2}, {api.Null, "null", 0}, {api.Load, "load", 1}, {api.Store, "store", 1},
		{api.Pop, "pop", 0}, {api.Dup, "dup", 0}, {api.Add, "add", 0}, {api.Sub, "sub", 0}, {api.Mul, "mul", 0}, {api.Div, "div", 0},
		{api.Rem, "rem", 0}, {api.Neg, "neg", 0}, {api.Less, "less", 0}, {api.Same, "same", 0}, {api.CAdd, "cadd", 0}, {api.CSub, "csub", 0},
		{api.CMul, "cmul", 0}, {api.CConj, "cconj", 0}, {api.CSame, "csame", 0}, {api.RSame, "rsame", 0}, {api.Goto, "goto", 3}, {api.IfZero, "ifzero", 3},
		{api.IfOne, "ifone", 3}, {api.New, "new", 2}, {api.GetField, "getfield", 2}, {api.PutField, "putfield", 2}, {api.NewArr, "newarr", 0}, {api.ArrLen, "arrlen", 0},
		{api.ArrGet, "arrget", 0}, {api.ArrPut, "arrput", 0}, {api.Call, "call", 2}, {api.Ret, "ret", 0}, {api.RetVal, "retval", 0}, {api.Throw, "throw", 0},
		{api.Cast, "cast", 2}, {api.Is, "is", 2}, {api.Enter, "enter", 1}, {api.Exit, "exit", 1}, {api.Wait, "wait", 0}, {api.Notify, "notify", 0},
		{api.NotifyAll, "notifyall", 0}, {api.Spawn, "spawn", 2}, {api.Join, "join", 0}, {api.Yield, "yield", 0}, {api.Out, "out", 0}, {api.OutC, "outc", 0},
	}
}

// noOps: numbers of no op: below 0, above the last one, at bounds of narrower numbers, and those whose lowest bits are an op's.
func noOps() []int {
	list := []int{math.MinInt, math.MinInt + 1, math.MinInt32, -256, -128, -2, -1, api.Ops, api.Ops + 1, 63, 64, 127, 128, 255, math.MaxInt32, math.MaxInt - 1, math.MaxInt}
	for _, o := range allTold() {
		list = append(list, o.op+256, o.op+1<<16, o.op+1<<32, o.op-256, o.op+math.MinInt)
	}
	return list
}

// operandsToTry: those that an instruction may have at most, their neighbours, and what would wrap into one of them.
func operandsToTry() []int {
	return []int{0, 1, 2, 127, 128, 255, 256, 300, 998, 999, 1000, 1001, 1024, 1 << 16, 1<<16 + 1, math.MaxInt32, 1 << 32, 1<<32 + 1, math.MaxInt, -1, -2, -999, -1000, -1 << 32, math.MinInt32, math.MinInt, math.MinInt + 1}
}

// isByTheDocument: whether an op with that operand, of which this is told, is an instruction.
func isByTheDocument(o told, a int) bool {
	return a == 0 || o.operand > 0 && a > 0 && a <= 999
}

func TestTellsOfEveryOp(t *testing.T) {
	for at, o := range allTold() {
		if o.op != at {
			t.Fatalf("op %d stands at %d", o.op, at)
		}
	}
	if len(allTold()) != api.Ops {
		t.Fatalf("%d ops are told of, there are %d", len(allTold()), api.Ops)
	}
}

func TestOperands(t *testing.T) {
	for _, o := range allTold() {
		if got := Operand(o.op); got != o.operand {
			t.Errorf("P4.1: Operand of %s: %d, not %d", o.name, got, o.operand)
		}
	}
	for _, op := range noOps() {
		if got := Operand(op); got != -1 {
			t.Errorf("P4.1: Operand(%d): %d", op, got)
		}
	}
}

func TestIs(t *testing.T) {
	for _, o := range allTold() {
		for _, a := range operandsToTry() {
			if got := Is(api.Ins{Op: o.op, A: a}); got != isByTheDocument(o, a) {
				t.Errorf("P4.1: Is of %s with %d: %v", o.name, a, got)
			}
		}
	}
	for _, op := range noOps() {
		for _, a := range operandsToTry() {
			if Is(api.Ins{Op: op, A: a}) {
				t.Errorf("P4.1: Is({%d, %d})", op, a)
			}
		}
	}
}

func TestStopsJumpsFaults(t *testing.T) {
	stopping := []int{api.Goto, api.Ret, api.RetVal, api.Throw}
	jumping := []int{api.Goto, api.IfZero, api.IfOne}
	faulting := []int{api.Div, api.Rem, api.GetField, api.PutField, api.NewArr, api.ArrLen, api.ArrGet, api.ArrPut, api.Call, api.Throw, api.Cast, api.Enter, api.Wait, api.Notify, api.NotifyAll, api.Spawn, api.Join, api.New}
	for _, o := range allTold() {
		if got := Stops(o.op); got != slices.Contains(stopping, o.op) {
			t.Errorf("P4.3: Stops of %s: %v", o.name, got)
		}
		if got := Jumps(o.op); got != slices.Contains(jumping, o.op) {
			t.Errorf("P4.3: Jumps of %s: %v", o.name, got)
		}
		if got := Faults(o.op); got != slices.Contains(faulting, o.op) {
			t.Errorf("P4.3: Faults of %s: %v", o.name, got)
		}
	}
	for _, op := range noOps() {
		if Stops(op) || Jumps(op) || Faults(op) {
			t.Errorf("P4.3: %d, no op: stops %v, jumps %v, faults %v", op, Stops(op), Jumps(op), Faults(op))
		}
	}
}

func TestPrints(t *testing.T) {
	if got := Print(api.Ins{Op: api.Goto, A: 3}); got != "goto 3" {
		t.Errorf("P4.3: Print({Goto, 3}): %q", got)
	}
	for _, o := range allTold() {
		for _, a := range operandsToTry() {
			want := "?"
			if isByTheDocument(o, a) {
				want = o.name
			}
			if isByTheDocument(o, a) && o.operand > 0 {
				want += " " + strconv.Itoa(a)
			}
			if got := Print(api.Ins{Op: o.op, A: a}); got != want {
				t.Errorf("P4.3: Print of %s with %d: %q, not %q", o.name, a, got, want)
			}
		}
	}
	for _, op := range noOps() {
		for _, a := range operandsToTry() {
			if got := Print(api.Ins{Op: op, A: a}); got != "?" {
				t.Errorf("P4.3: Print({%d, %d}): %q", op, a, got)
			}
		}
	}
}
