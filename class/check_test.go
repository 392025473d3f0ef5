package class

import (
	"math"
	"slices"
	"strings"
	"testing"

	"loom/api"
)

func expectCheck(t *testing.T, what string, c api.Class, want api.Errno) {
	t.Helper()
	if got := Check(c); got != want {
		t.Errorf("P5.2: %s: %d, not %d", what, got, want)
	}
	if b, err := Encode(c); err != want || (len(b) > 0) != (want == api.OK) {
		t.Errorf("P5.3: %s: %d bytes, %d, not %d", what, len(b), err, want)
	}
}

// withCode: a class of one method of that code, beside the sample's constants.
func withCode(locals int, code ...api.Ins) api.Class {
	return api.Class{Name: "A", Pool: sample().Pool, Methods: []api.Method{{Name: "f", Locals: locals, Code: code}}}
}

// withHandler: a class of one method of that handler, of three instructions.
func withHandler(h api.Handler) api.Class {
	c := withCode(1, api.Ins{}, api.Ins{}, api.Ins{Op: api.Ret})
	c.Methods[0].Handlers = []api.Handler{h}
	return c
}

// fault: something that Check refuses, and what it tells.
type fault struct {
	what  string
	spoil func(c *api.Class)
	want  api.Errno
}

// faultsOfParts: of names, constants and fields, in the order in which Check asks.
func faultsOfParts() []fault {
	return []fault{
		{"no name", func(c *api.Class) { c.Name = "" }, api.ErrName},
		{"no super's name", func(c *api.Class) { c.Super = "9" }, api.ErrName},
		{"too many constants", func(c *api.Class) { c.Pool = append(c.Pool, make([]api.Const, 122)...) }, api.ErrBig},
		{"a CInt with a Name", func(c *api.Class) { c.Pool[0].Name = "x" }, api.ErrConst},
		{"a CCplx with an Int", func(c *api.Class) { c.Pool[1].Int = 1 }, api.ErrConst},
		{"a CClass with the other nought", func(c *api.Class) { c.Pool[2].Cplx = complex(0, math.Copysign(0, -1)) }, api.ErrConst},
		{"a CClass without a Class", func(c *api.Class) { c.Pool[2].Class = "" }, api.ErrName},
		{"a CField with an Int", func(c *api.Class) { c.Pool[3].Int = -1 }, api.ErrConst},
		{"a CField without a Name", func(c *api.Class) { c.Pool[3].Name = "" }, api.ErrName},
		{"no kind of a constant", func(c *api.Class) { c.Pool[4].Kind = 6 }, api.ErrConst},
		{"a CMethod of no Class", func(c *api.Class) { c.Pool[4].Class = "-" }, api.ErrName},
		{"too many fields", func(c *api.Class) { c.Fields = append(c.Fields, make([]api.Field, 5)...) }, api.ErrBig},
		{"a field without a name", func(c *api.Class) { c.Fields[0].Name = "" }, api.ErrName},
		{"a void field", func(c *api.Class) { c.Fields[1].Type = plain(api.TVoid) }, api.ErrName},
		{"no type of a field", func(c *api.Class) { c.Fields[2].Type = plain(api.TNull) }, api.ErrName},
		{"two fields of one name", func(c *api.Class) { c.Fields[2].Name = "y" }, api.ErrTwice},
		{"a last field of no name", func(c *api.Class) { c.Fields[3].Name = "a b" }, api.ErrName},
		{"too many methods", func(c *api.Class) { c.Methods = append(c.Methods, make([]api.Method, 10)...) }, api.ErrBig},
	}
}

// faultsOfMethods: those that Check asks for behind them.
func faultsOfMethods() []fault {
	return []fault{
		{"a method without a name", func(c *api.Class) { c.Methods[0].Name = "" }, api.ErrName},
		{"too many parameters", func(c *api.Class) { c.Methods[0].Params = append(c.Methods[0].Params, make([]api.Type, 4)...) }, api.ErrBig},
		{"a void parameter", func(c *api.Class) { c.Methods[0].Params[2] = plain(api.TVoid) }, api.ErrName},
		{"no result's type", func(c *api.Class) { c.Methods[0].Ret = plain(api.TTop) }, api.ErrName},
		{"fewer locals than parameters", func(c *api.Class) { c.Methods[0].Locals = 3 }, api.ErrBig},
		{"too much stack", func(c *api.Class) { c.Methods[0].Stack = 65 }, api.ErrBig},
		{"too many instructions", func(c *api.Class) { c.Methods[0].Code = append(c.Methods[0].Code, make([]api.Ins, 184)...) }, api.ErrBig},
		{"no op", func(c *api.Class) { c.Methods[0].Code[0] = api.Ins{Op: 99} }, api.ErrOp},
		{"no local", func(c *api.Class) { c.Methods[0].Code[1] = api.Ins{Op: api.Load, A: 999} }, api.ErrTarget},
		{"no constant", func(c *api.Class) { c.Methods[0].Code[2].A = 999 }, api.ErrConst},
		{"a constant of another kind", func(c *api.Class) { c.Methods[0].Code[3].A = 3 }, api.ErrConst},
		{"an operand where there is none", func(c *api.Class) { c.Methods[0].Code[4] = api.Ins{A: 1} }, api.ErrOp},
		{"no target", func(c *api.Class) { c.Methods[0].Code[13].A = 999 }, api.ErrTarget},
		{"no stop at the end", func(c *api.Class) { c.Methods[0].Code[len(c.Methods[0].Code)-1] = api.Ins{} }, api.ErrTail},
		{"too many handlers", func(c *api.Class) { c.Methods[0].Handlers = append(c.Methods[0].Handlers, make([]api.Handler, 15)...) }, api.ErrBig},
		{"a handler from nowhere", func(c *api.Class) { c.Methods[0].Handlers[0].From = -1 }, api.ErrTarget},
		{"a handler of no constant", func(c *api.Class) { c.Methods[0].Handlers[0].Class = -2 }, api.ErrConst},
		{"a handler of too many locks", func(c *api.Class) { c.Methods[0].Handlers[0].Depth = 7 }, api.ErrBig},
		{"a handler to nowhere", func(c *api.Class) { c.Methods[0].Handlers[1].To = 999 }, api.ErrTarget},
		{"a handler of another constant", func(c *api.Class) { c.Methods[0].Handlers[1].Class = 0 }, api.ErrConst},
		{"another method of no name", func(c *api.Class) { c.Methods[1].Name = "1" }, api.ErrName},
		{"no locals", func(c *api.Class) { c.Methods[1].Locals = 0 }, api.ErrBig},
		{"a stack below nought", func(c *api.Class) { c.Methods[1].Stack = -1 }, api.ErrBig},
		{"no local of the other method", func(c *api.Class) { c.Methods[1].Code[0].A = 1 }, api.ErrTarget},
		{"no stop at its end", func(c *api.Class) { c.Methods[1].Code[1].Op = api.Pop }, api.ErrTail},
		{"a parameter of no type", func(c *api.Class) { c.Methods[2].Params[0] = ref("") }, api.ErrName},
		{"a result that has a class and is none", func(c *api.Class) { c.Methods[2].Ret.Class = "A" }, api.ErrName},
		{"two methods of one name", func(c *api.Class) { c.Methods[2].Name = "f" }, api.ErrTwice},
		{"too many locals", func(c *api.Class) { c.Methods[2].Locals = 33 }, api.ErrBig},
		{"no instruction", func(c *api.Class) { c.Methods[2].Code = nil }, api.ErrBig},
		{"a handler that goes nowhere", func(c *api.Class) { c.Methods[2].Handlers[0].Target = 2 }, api.ErrTarget},
		{"a handler of less than no locks", func(c *api.Class) { c.Methods[2].Handlers[0].Depth = -1 }, api.ErrBig},
	}
}

func allFaults() []fault { return append(faultsOfParts(), faultsOfMethods()...) }

func TestTakesWhatMayBe(t *testing.T) {
	expectCheck(t, "the sample", sample(), api.OK)
	expectCheck(t, "the greatest", greatest(), api.OK)
	expectCheck(t, "the least", api.Class{Name: "A"}, api.OK)
	expectCheck(t, "below itself", api.Class{Name: "A", Super: "A"}, api.OK)
	expectCheck(t, "empty lists", api.Class{Name: "Object", Pool: []api.Const{}, Fields: []api.Field{}, Methods: []api.Method{}}, api.OK)
	expectCheck(t, "nothing", api.Class{}, api.ErrName)
}

func TestRefusesEachFault(t *testing.T) {
	for _, f := range allFaults() {
		expectCheck(t, f.what, changed(f.spoil), f.want)
	}
}

func TestTellsTheFaultThatIsAskedForFirst(t *testing.T) {
	list := allFaults()
	for i, first := range list {
		for _, second := range list[i+1:] {
			c := changed(first.spoil)
			second.spoil(&c)
			expectCheck(t, first.what+", "+second.what, c, first.want)
		}
	}
}

func TestNamesOfClasses(t *testing.T) {
	for s, ok := range map[string]bool{"": false, "a": true, "$": true, "1a": false, "a-": false, "é": false, strings.Repeat("a", 20): true, strings.Repeat("a", 21): false} {
		want := api.ErrName
		if ok {
			want = api.OK
		}
		expectCheck(t, "Name "+s, changed(func(c *api.Class) { c.Name = s }), want)
		expectCheck(t, "a field's "+s, changed(func(c *api.Class) { c.Fields[0].Name = s }), want)
		expectCheck(t, "a method's "+s, changed(func(c *api.Class) { c.Methods[0].Name = s }), want)
		for at := 2; at < 5; at++ {
			expectCheck(t, "a constant's Class "+s, changed(func(c *api.Class) { c.Pool[at].Class = s }), want)
		}
		for at := 3; at < 5; at++ {
			expectCheck(t, "a constant's Name "+s, changed(func(c *api.Class) { c.Pool[at].Name = s }), want)
		}
		if s == "" {
			want = api.OK
		}
		expectCheck(t, "Super "+s, changed(func(c *api.Class) { c.Super = s }), want)
	}
}

func TestKindsOfConstants(t *testing.T) {
	for _, kind := range []int{math.MinInt, -1, 0, 6, 7, 255, 256, 257, 1<<32 + 1, math.MaxInt} {
		expectCheck(t, "no kind", api.Class{Name: "A", Pool: []api.Const{{Kind: kind}}}, api.ErrConst)
		// That there is no such kind is asked ahead of names.
		expectCheck(t, "no kind, no name", api.Class{Name: "A", Pool: []api.Const{{Kind: kind, Class: "-"}}}, api.ErrConst)
	}
}

func TestPartsOfConstants(t *testing.T) {
	for kind := api.CInt; kind <= api.CMethod; kind++ {
		whole := api.Const{Kind: kind}
		if kind >= api.CClass {
			whole.Class = "A"
		}
		if kind >= api.CField {
			whole.Name = "x"
		}
		try := func(what string, own bool, change func(k *api.Const)) {
			k := whole
			change(&k)
			want := api.ErrConst
			if own {
				want = api.OK
			}
			expectCheck(t, what, api.Class{Name: "A", Pool: []api.Const{{Kind: api.CInt}, k}}, want)
		}
		try("as it is", true, func(*api.Const) {})
		for _, n := range []int64{1, -1, 1 << 32, math.MaxInt64, math.MinInt64} {
			try("Int", kind == api.CInt, func(k *api.Const) { k.Int = n })
		}
		for _, n := range append(edges()[1:], 1, 1i, complex(1, -2)) {
			try("Cplx", kind == api.CCplx, func(k *api.Const) { k.Cplx = n })
		}
		try("Class", kind >= api.CClass, func(k *api.Const) { k.Class = "B" })
		try("Name", kind >= api.CField, func(k *api.Const) { k.Name = "y" })
	}
}

func TestConstantsThatAreNoNamesOfTheirOwn(t *testing.T) {
	for kind := api.CInt; kind <= api.CMethod; kind++ {
		k := api.Const{Kind: kind, Class: "-", Name: "-"}
		want := api.ErrConst
		if kind >= api.CField {
			want = api.ErrName
		}
		expectCheck(t, "no names", api.Class{Name: "A", Pool: []api.Const{k}}, want)
		k.Int = 1
		expectCheck(t, "no names, and an Int", api.Class{Name: "A", Pool: []api.Const{k}}, api.ErrConst)
	}
}

func TestLimits(t *testing.T) {
	unlike := func(i int) string { return "n" + string(rune('a'+i)) }
	least := func(name string) api.Method { return api.Method{Name: name, Locals: 7, Code: []api.Ins{{Op: api.Ret}}} }
	rows := []struct {
		what string
		most int
		make func(n int) api.Class
	}{
		{"constants", 128, func(n int) api.Class {
			return api.Class{Name: "A", Pool: slices.Repeat([]api.Const{{Kind: api.CInt}}, n)}
		}},
		{"fields", 8, func(n int) api.Class {
			c := api.Class{Name: "A"}
			for i := range n {
				c.Fields = append(c.Fields, api.Field{Name: unlike(i), Type: plain(api.TInt)})
			}
			return c
		}},
		{"methods", 12, func(n int) api.Class {
			c := api.Class{Name: "A"}
			for i := range n {
				c.Methods = append(c.Methods, least(unlike(i)))
			}
			return c
		}},
		{"parameters", 6, func(n int) api.Class {
			m := least("f")
			m.Params = slices.Repeat([]api.Type{plain(api.TInt)}, n)
			return api.Class{Name: "A", Methods: []api.Method{m}}
		}},
		{"instructions", 200, func(n int) api.Class { return withCode(1, slices.Repeat([]api.Ins{{Op: api.Ret}}, n)...) }},
		{"handlers", 16, func(n int) api.Class {
			m := least("f")
			m.Handlers = slices.Repeat([]api.Handler{{To: 1, Class: -1}}, n)
			return api.Class{Name: "A", Methods: []api.Method{m}}
		}},
	}
	for _, r := range rows {
		expectCheck(t, "one of: "+r.what, r.make(1), api.OK)
		expectCheck(t, "all but one of: "+r.what, r.make(r.most-1), api.OK)
		expectCheck(t, "as many as may be: "+r.what, r.make(r.most), api.OK)
		expectCheck(t, "one more: "+r.what, r.make(r.most+1), api.ErrBig)
		expectCheck(t, "far more: "+r.what, r.make(1000), api.ErrBig)
	}
	expectCheck(t, "no instruction", withCode(1), api.ErrBig)
}

func TestLocalsAndStack(t *testing.T) {
	for params := range api.MaxParams + 1 {
		for _, n := range []int{math.MinInt, -1, 0, params - 1, params, params + 1, params + 2, 31, 32, 33, 256, 257, 1<<32 + 8, math.MaxInt} {
			c := withCode(n, api.Ins{Op: api.Ret})
			c.Methods[0].Params = slices.Repeat([]api.Type{plain(api.TCplx)}, params)
			want := api.ErrBig
			if n >= 1+params && n <= 32 {
				want = api.OK
			}
			expectCheck(t, "Locals", c, want)
		}
	}
	for _, n := range []int{math.MinInt, -1, 0, 1, 63, 64, 65, 256, 1 << 32, math.MaxInt} {
		c := withCode(1, api.Ins{Op: api.Ret})
		c.Methods[0].Stack = n
		want := api.ErrBig
		if n >= 0 && n <= 64 {
			want = api.OK
		}
		expectCheck(t, "Stack", c, want)
	}
}

func TestTwoOfOneName(t *testing.T) {
	for i := range 4 {
		for j := range 4 {
			if i != j {
				expectCheck(t, "two fields", changed(func(c *api.Class) { c.Fields[i].Name = c.Fields[j].Name }), api.ErrTwice)
			}
		}
	}
	for i := range 3 {
		for j := range 3 {
			if i != j {
				expectCheck(t, "two methods", changed(func(c *api.Class) { c.Methods[i].Name = c.Methods[j].Name }), api.ErrTwice)
			}
		}
		for _, f := range sample().Fields[1:] {
			expectCheck(t, "a field and a method", changed(func(c *api.Class) { c.Methods[i].Name = f.Name }), api.OK)
		}
		expectCheck(t, "a class and a method", changed(func(c *api.Class) { c.Methods[i].Name = c.Name }), api.OK)
	}
	// Unlike types don't make them two names, and capitals aren't small letters.
	expectCheck(t, "methods of unlike parameters", changed(func(c *api.Class) { c.Methods[1].Name, c.Methods[1].Params = "f", nil }), api.ErrTwice)
	expectCheck(t, "small and capital", changed(func(c *api.Class) { c.Fields[1].Name = "X" }), api.OK)
	// Along the list: a field of a name ahead of it is told ahead of a later one's type.
	expectCheck(t, "twice, then no type", changed(func(c *api.Class) { c.Fields[1].Name, c.Fields[2].Type = "x", plain(api.TVoid) }), api.ErrTwice)
	expectCheck(t, "no type, then twice", changed(func(c *api.Class) { c.Fields[1].Type, c.Fields[2].Name = plain(api.TVoid), "x" }), api.ErrName)
	expectCheck(t, "twice and no type", changed(func(c *api.Class) { c.Fields[1] = api.Field{Name: "x"} }), api.ErrName)
}

func TestTypesOfMembers(t *testing.T) {
	for _, kind := range []int{-1, api.TVoid, api.TInt, api.TCplx, api.TArr, api.TRef, api.TNull, api.TTop, 7, 257, math.MaxInt} {
		for _, class := range []string{"", "A", "9", strings.Repeat("a", 21)} {
			typ := api.Type{Kind: kind, Class: class}
			want := func(void bool) api.Errno {
				if IsType(typ, void) {
					return api.OK
				}
				return api.ErrName
			}
			expectCheck(t, "a field's type", changed(func(c *api.Class) { c.Fields[3].Type = typ }), want(false))
			expectCheck(t, "a parameter's type", changed(func(c *api.Class) { c.Methods[0].Params[1] = typ }), want(false))
			expectCheck(t, "a result's type", changed(func(c *api.Class) { c.Methods[0].Ret = typ }), want(true))
		}
	}
}

// operandsByTheDocument: what each op that has an operand asks for: a kind of constant, else 100: a local, 101: an instruction.
func operandsByTheDocument() map[int]int {
	return map[int]int{
		api.PushInt: api.CInt, api.PushCplx: api.CCplx, api.New: api.CClass, api.Cast: api.CClass, api.Is: api.CClass,
		api.GetField: api.CField, api.PutField: api.CField, api.Call: api.CMethod, api.Spawn: api.CMethod,
		api.Load: 100, api.Store: 100, api.Enter: 100, api.Exit: 100, api.Goto: 101, api.IfZero: 101, api.IfOne: 101,
	}
}

// insByTheDocument: what Check tells of an instruction of a method of so many locals, of two instructions, with the sample's constants.
func insByTheDocument(i api.Ins, locals int) api.Errno {
	asked, has := operandsByTheDocument()[i.Op]
	switch {
	case i.Op < 0 || i.Op >= api.Ops || !has && i.A != 0 || i.A < 0 || i.A > 999:
		return api.ErrOp
	case asked == 100 && i.A >= locals, asked == 101 && i.A >= 2:
		return api.ErrTarget
	case has && asked < 100 && (i.A >= 7 || sample().Pool[i.A].Kind != asked):
		return api.ErrConst
	}
	return api.OK
}

func TestInstructions(t *testing.T) {
	for op := -2; op < api.Ops+3; op++ {
		for _, a := range []int{math.MinInt, -1, 0, 1, 2, 3, 4, 5, 6, 7, 8, 31, 32, 33, 127, 128, 200, 256, 998, 999, 1000, 1 << 32, math.MaxInt} {
			for _, locals := range []int{1, 4, 32} {
				i := api.Ins{Op: op, A: a}
				expectCheck(t, "an instruction", withCode(locals, i, api.Ins{Op: api.Ret}), insByTheDocument(i, locals))
			}
		}
	}
}

func TestInstructionsInOrder(t *testing.T) {
	wrong := []struct {
		i    api.Ins
		want api.Errno
	}{
		{api.Ins{Op: -1}, api.ErrOp}, {api.Ins{Op: api.Add, A: 1}, api.ErrOp}, {api.Ins{Op: api.Goto, A: 1000}, api.ErrOp},
		{api.Ins{Op: api.Enter, A: 1}, api.ErrTarget}, {api.Ins{Op: api.Is, A: 0}, api.ErrConst}, {api.Ins{Op: api.Call, A: 7}, api.ErrConst}, {api.Ins{Op: api.IfOne, A: 3}, api.ErrTarget},
	}
	for _, a := range wrong {
		for _, b := range wrong {
			expectCheck(t, "two wrong ones", withCode(1, a.i, b.i, api.Ins{Op: api.Nop}), a.want)
		}
		expectCheck(t, "a wrong one at the end", withCode(1, api.Ins{}, api.Ins{}, a.i), a.want)
	}
}

func TestConstantsThatAreNotThere(t *testing.T) {
	for op, asked := range operandsByTheDocument() {
		if asked < 100 {
			c := withCode(1, api.Ins{Op: op}, api.Ins{Op: api.Ret})
			c.Pool = nil
			expectCheck(t, "an empty pool", c, api.ErrConst)
			c = greatest()
			c.Methods[0].Code[0] = api.Ins{Op: op, A: 128}
			expectCheck(t, "behind the last constant", c, api.ErrConst)
		}
	}
}

func TestTargets(t *testing.T) {
	for _, op := range []int{api.Goto, api.IfZero, api.IfOne} {
		for _, count := range []int{1, 2, 3, 100, 199, 200} {
			for _, target := range []int{0, 1, 2, count - 2, count - 1, count, count + 1, 999} {
				row := make([]api.Ins, count, count+1)
				row[count-1].Op = api.Ret
				row[0] = api.Ins{Op: op, A: max(target, 0)}
				want := api.ErrTarget
				if target < count {
					want = api.OK
				}
				if target < count && count == 1 && op != api.Goto {
					want = api.ErrTail
				}
				expectCheck(t, "a target", withCode(1, row...), want)
			}
		}
	}
}

func TestCodeThatRunsOffItsEnd(t *testing.T) {
	stopping := []int{api.Goto, api.Ret, api.RetVal, api.Throw}
	constants := map[int]int{api.CInt: 0, api.CCplx: 1, api.CClass: 2, api.CField: 3, api.CMethod: 4}
	for op := range api.Ops {
		last := api.Ins{Op: op, A: constants[operandsByTheDocument()[op]]}
		want := api.ErrTail
		if slices.Contains(stopping, op) {
			want = api.OK
		}
		expectCheck(t, "alone", withCode(1, last), want)
		expectCheck(t, "at the end", withCode(1, api.Ins{Op: api.Ret}, last), want)
		expectCheck(t, "ahead of a stop", withCode(1, last, api.Ins{Op: api.Ret}), api.OK)
	}
}

func TestWhereHandlersAre(t *testing.T) {
	places := []int{math.MinInt, -2, -1, 0, 1, 2, 3, 4, 255, 256, 1 << 32, math.MaxInt}
	for _, from := range places {
		for _, to := range places {
			for _, target := range places {
				want := api.ErrTarget
				if 0 <= from && from < to && to <= 3 && 0 <= target && target < 3 {
					want = api.OK
				}
				expectCheck(t, "a handler", withHandler(api.Handler{From: from, To: to, Target: target, Class: -1}), want)
			}
		}
	}
}

func TestWhatHandlersTake(t *testing.T) {
	for _, class := range []int{math.MinInt, -3, -2, -1, 0, 1, 2, 3, 4, 5, 6, 7, 8, 127, 128, 256, 1 << 32, math.MaxInt} {
		for _, depth := range []int{math.MinInt, -1, 0, 1, 5, 6, 7, 8, 256, 1 << 32, math.MaxInt} {
			want := api.OK
			if depth < 0 || depth > 6 {
				want = api.ErrBig
			}
			if class != -1 && class != 2 {
				want = api.ErrConst
			}
			expectCheck(t, "a handler", withHandler(api.Handler{To: 1, Class: class, Depth: depth}), want)
		}
	}
	c := withHandler(api.Handler{To: 1, Class: 0})
	c.Pool = nil
	expectCheck(t, "a handler without constants", c, api.ErrConst)
}
