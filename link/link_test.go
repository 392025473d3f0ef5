package link

import (
	"strconv"
	"strings"
	"testing"

	"loom/api"
)

func plain(kind int) api.Type { return api.Type{Kind: kind} }

func ref(class string) api.Type { return api.Type{Kind: api.TRef, Class: class} }

func field(name string, t api.Type) api.Field { return api.Field{Name: name, Type: t} }

// method: of those parameters, which tells t and runs no further than its first instruction.
func method(name string, t api.Type, params ...api.Type) api.Method {
	return api.Method{Name: name, Params: params, Ret: t, Locals: 1 + len(params), Code: []api.Ins{{Op: api.Ret}}}
}

// void: a method that tells nothing.
func void(name string, params ...api.Type) api.Method {
	return method(name, plain(api.TVoid), params...)
}

func ofClass(name string) api.Const { return api.Const{Kind: api.CClass, Class: name} }

func ofField(class, name string) api.Const {
	return api.Const{Kind: api.CField, Class: class, Name: name}
}

func ofMethod(class, name string) api.Const {
	return api.Const{Kind: api.CMethod, Class: class, Name: name}
}

// having: a class with those fields, methods and constants.
func having(name, super string, parts ...any) api.Class {
	c := api.Class{Name: name, Super: super}
	for _, part := range parts {
		switch x := part.(type) {
		case api.Field:
			c.Fields = append(c.Fields, x)
		case api.Method:
			c.Methods = append(c.Methods, x)
		case api.Const:
			c.Pool = append(c.Pool, x)
		}
	}
	return c
}

// start: the class that each program must have.
func start() api.Class { return having("Main", "", void("main")) }

// made: what Link gives of what it must take.
func made(t testing.TB, l ...api.Class) *Program {
	t.Helper()
	p, err := Link(l)
	if err != api.OK || p == nil {
		t.Fatalf("P7.1: Link(%v): %v, %d", l, p, err)
	}
	return p
}

func expectRefused(t *testing.T, want api.Errno, l ...api.Class) {
	t.Helper()
	p, err := Link(l)
	if err != want || p != nil {
		t.Errorf("P7.1: Link(%v): %v, %d, not %d", l, p, err, want)
	}
}

// expectRefusedWithStart: with a Main behind them, and ahead of them.
func expectRefusedWithStart(t *testing.T, want api.Errno, l ...api.Class) {
	t.Helper()
	expectRefused(t, want, append(append([]api.Class{}, l...), start())...)
	expectRefused(t, want, append([]api.Class{start()}, l...)...)
}

// numbered: as many classes, all unlike, Main not among them.
func numbered(count int) []api.Class {
	var l []api.Class
	for at := range count {
		l = append(l, having("c"+strconv.Itoa(at), ""))
	}
	return l
}

func TestLinkRefusesNoClassAtAll(t *testing.T) {
	expectRefused(t, api.ErrMain)
	for _, l := range [][]api.Class{nil, {}, make([]api.Class, 0, 9)} {
		if p, err := Link(l); p != nil || err != api.ErrMain {
			t.Errorf("P7.1: Link of none: %v, %d", p, err)
		}
	}
}

// unchecked: classes that class.Check refuses, by what it tells of them.
func unchecked() map[api.Errno]api.Class {
	tail, op, target := void("f"), void("f"), void("f")
	tail.Code = []api.Ins{{Op: api.Nop}}
	op.Code = []api.Ins{{Op: api.Ops}, {Op: api.Ret}}
	target.Code = []api.Ins{{Op: api.Goto, A: 1}}
	return map[api.Errno]api.Class{
		api.ErrName:   having("1", ""),
		api.ErrBig:    having("U", "", api.Method{Name: "f", Locals: 1}),
		api.ErrConst:  having("U", "", api.Const{Kind: 9}),
		api.ErrTwice:  having("U", "", void("f"), void("f")),
		api.ErrTail:   having("U", "", tail),
		api.ErrOp:     having("U", "", op),
		api.ErrTarget: having("U", "", target),
	}
}

func TestLinkRefusesWhatCheckRefuses(t *testing.T) {
	for want, u := range unchecked() {
		expectRefused(t, want, u)
		expectRefused(t, want, start(), u)
		expectRefused(t, want, u, start())
		expectRefused(t, want, start(), having("A", ""), u)
		for other, v := range unchecked() {
			if other != want {
				v.Name += "V"
				expectRefused(t, want, start(), u, v)
			}
		}
	}
	expectRefused(t, api.ErrName, having("A", "1"), start())
	expectRefused(t, api.ErrName, having("", ""), start())
}

// Whatever else the classes ahead of it have: each class is checked ahead of all else.
func TestLinkChecksEachClassFirst(t *testing.T) {
	for want, u := range unchecked() {
		for _, l := range [][]api.Class{
			numbered(17), numbered(40), {having("A", ""), having("A", "")}, {having("Object", "")}, {having("A", "X")}, {having("A", "A")},
			{having("A", "", field("x", ref("X")))}, {having("A", "Fault", field("code", plain(api.TInt)))},
			{having("A", "", void("f")), having("B", "A", method("f", plain(api.TInt)))},
			{having("A", "", ofClass("X"))}, {having("A", "", ofField("A", "x"))}, {},
		} {
			expectRefused(t, want, append(l, u)...)
		}
	}
}

func TestLinkRefusesWhatTypesRefuses(t *testing.T) {
	expectRefusedWithStart(t, api.ErrTwice, having("A", ""), having("A", ""))
	expectRefusedWithStart(t, api.ErrTwice, having("A", ""), having("B", ""), having("A", "B"))
	expectRefusedWithStart(t, api.ErrTwice, start())
	expectRefusedWithStart(t, api.ErrTwice, having("Object", ""))
	expectRefusedWithStart(t, api.ErrTwice, having("Fault", ""))
	expectRefusedWithStart(t, api.ErrTwice, having("A", ""), having("Fault", "Object", field("code", plain(api.TInt))))
	expectRefusedWithStart(t, api.ErrNoClass, having("A", "X"))
	expectRefusedWithStart(t, api.ErrNoClass, having("A", "B"), having("B", "X"))
	expectRefusedWithStart(t, api.ErrNoClass, having("A", "object"))
	expectRefusedWithStart(t, api.ErrCircle, having("A", "A"))
	expectRefusedWithStart(t, api.ErrCircle, having("A", "B"), having("B", "A"))
	expectRefusedWithStart(t, api.ErrCircle, having("A", "B"), having("B", "C"), having("C", "B"))
	expectRefused(t, api.ErrCircle, having("Main", "Main", void("main")))
}

func TestLinkTakesAtMostMaxClasses(t *testing.T) {
	for count := range 16 {
		if p := made(t, append(numbered(count), start())...); p.Number("Main") != count+2 {
			t.Errorf("P7.2: Number of Main behind %d: %d", count, p.Number("Main"))
		}
	}
	for _, count := range []int{16, 17, 100} {
		expectRefusedWithStart(t, api.ErrBig, numbered(count)...)
	}
	expectRefused(t, api.ErrBig, append(numbered(16), having("c0", "X"))...)
	expectRefused(t, api.ErrMain, numbered(16)...)
}

func TestLinkAsksTypesAheadOfMembers(t *testing.T) {
	bad := []api.Class{
		having("P", "", field("x", ref("X"))), having("P", "Fault", field("code", plain(api.TInt))), having("P", "", ofClass("X")), having("P", "", ofField("P", "x")), having("P", ""),
	}
	for _, b := range bad {
		expectRefused(t, api.ErrTwice, b, having("A", ""), having("A", ""))
		expectRefused(t, api.ErrTwice, b, having("Fault", ""))
		expectRefused(t, api.ErrCircle, b, having("A", "A"))
		expectRefused(t, api.ErrBig, append([]api.Class{b}, numbered(16)...)...)
	}
	// ErrNoClass of a super, where a field's name is told ahead of a field's class.
	expectRefused(t, api.ErrNoClass, bad[1], having("A", "X"))
}

func TestLinkRefusesStrangeClassesOfTypes(t *testing.T) {
	for _, strange := range []string{"X", "a", "object", "fault", "Ma", "Mainn"} {
		expectRefusedWithStart(t, api.ErrNoClass, having("A", "", field("x", ref(strange))))
		expectRefusedWithStart(t, api.ErrNoClass, having("A", "", field("x", plain(api.TInt)), field("y", ref("A")), field("z", ref(strange))))
		expectRefusedWithStart(t, api.ErrNoClass, having("A", "", void("f", ref(strange))))
		expectRefusedWithStart(t, api.ErrNoClass, having("A", "", void("e"), void("f", plain(api.TInt), ref("A"), ref(strange))))
		expectRefusedWithStart(t, api.ErrNoClass, having("A", "", method("f", ref(strange))))
		expectRefusedWithStart(t, api.ErrNoClass, having("A", "", method("e", ref("A")), method("f", ref(strange), plain(api.TInt))))
	}
	for _, there := range []string{"A", "B", "Main", "Object", "Fault"} {
		made(t, having("A", "", field("x", ref(there)), void("f", ref(there)), method("g", ref(there), plain(api.TArr), ref(there))), start(), having("B", ""))
	}
}

func TestLinkRefusesFieldsOfOneName(t *testing.T) {
	x, y := field("x", plain(api.TInt)), field("y", plain(api.TCplx))
	other := api.Field{Name: "x", Type: plain(api.TArr), Volatile: true}
	for _, again := range []api.Field{x, other} {
		expectRefusedWithStart(t, api.ErrTwice, having("A", "", x), having("B", "A", again))
		expectRefusedWithStart(t, api.ErrTwice, having("B", "A", y, again), having("A", "", x))
		expectRefusedWithStart(t, api.ErrTwice, having("A", "", x), having("B", "A"), having("C", "B"), having("D", "C", again))
		expectRefusedWithStart(t, api.ErrTwice, having("D", "C", y, again), having("C", "B"), having("B", "A"), having("A", "", x))
	}
	for _, code := range []api.Field{field("code", plain(api.TInt)), field("code", ref("A")), {Name: "code", Type: plain(api.TInt), Volatile: true}} {
		expectRefusedWithStart(t, api.ErrTwice, having("A", "Fault", code))
		expectRefusedWithStart(t, api.ErrTwice, having("A", "B", y, code), having("B", "C", x), having("C", "Fault"))
	}
}

func TestLinkTakesFieldsOfOneNameBesideEachOther(t *testing.T) {
	x := field("x", plain(api.TInt))
	made(t, having("A", "", x), having("B", "", x), start())
	made(t, having("A", "C", x), having("B", "C", x), having("C", ""), start())
	made(t, having("A", "", field("code", plain(api.TInt))), having("B", "Fault", x), having("C", "A", x), start())
	// A field's and a method's names are no matter to each other; nor are great and small letters.
	made(t, having("A", "", x, void("x")), having("B", "A", void("x"), field("X", plain(api.TInt))), start())
	made(t, having("A", "", void("x")), having("B", "A", x), start())
	made(t, having("A", "Fault", void("code"), field("Code", plain(api.TInt))), start())
}

func TestLinkRefusesMethodsOfOtherTypes(t *testing.T) {
	integer, complexNumber := plain(api.TInt), plain(api.TCplx)
	f := method("f", ref("A"), integer, ref("B"))
	for _, g := range []api.Method{
		method("f", ref("B"), integer, ref("B")), method("f", integer, integer, ref("B")), void("f", integer, ref("B")),
		method("f", ref("A"), integer, ref("A")), method("f", ref("A"), integer), method("f", ref("A")), method("f", ref("A"), ref("B"), integer),
		method("f", ref("A"), integer, ref("B"), integer), method("f", ref("A"), complexNumber, ref("B")), method("f", ref("A"), integer, ref("Object")), method("f", ref("A"), plain(api.TArr), ref("B")),
	} {
		expectRefusedWithStart(t, api.ErrTable, having("A", "", f), having("B", "A", g))
		expectRefusedWithStart(t, api.ErrTable, having("A", "", g), having("B", "A", f))
		expectRefusedWithStart(t, api.ErrTable, having("B", "A", void("e"), g), having("A", "", void("h"), f))
		expectRefusedWithStart(t, api.ErrTable, having("C", "B", g), having("B", "A"), having("A", "", f))
		expectRefusedWithStart(t, api.ErrTable, having("A", "", f), having("B", "A", f), having("C", "B", g))
		made(t, having("A", "", f), having("B", "", g), start())
		made(t, having("A", "C", f), having("B", "C", g), having("C", "Fault"), start())
	}
	made(t, having("A", "", f), having("B", "A", f), having("C", "B"), having("D", "C", f), start())
	// What a method keeps to itself is its own business.
	longer := f
	longer.Locals, longer.Stack, longer.Code = 9, 5, []api.Ins{{Op: api.Nop}, {Op: api.Ret}}
	longer.Handlers = []api.Handler{{To: 1, Class: -1}}
	made(t, having("A", "", f), having("B", "A", longer), start())
}

// A method is held against those of all ancestors: of the nearest one's types is not enough.
func TestLinkHoldsMethodsAgainstEachAncestor(t *testing.T) {
	f, g := void("f"), void("f", plain(api.TInt))
	strange := having("S", "", field("x", ref("X")))
	expectRefusedWithStart(t, api.ErrTable, having("C", "B", f), strange, having("B", "A", f), having("A", "", g))
	expectRefusedWithStart(t, api.ErrTable, having("C", "B", f), strange, having("B", "A", g), having("A", "", f))
	expectRefusedWithStart(t, api.ErrNoClass, having("C", "B"), strange, having("B", "A", g), having("A", "", f))
}

func TestLinkRefusesStrangeClassesOfConstants(t *testing.T) {
	for _, k := range []api.Const{ofClass("X"), ofField("X", "x"), ofMethod("X", "f"), ofClass("object"), ofField("fault", "code"), ofMethod("main", "main")} {
		expectRefusedWithStart(t, api.ErrNoClass, having("A", "", k, field("x", plain(api.TInt)), void("f")))
		expectRefusedWithStart(t, api.ErrNoClass, having("A", "", ofClass("A"), api.Const{Kind: api.CInt}, k))
		expectRefused(t, api.ErrNoClass, having("Main", "", k, void("main")))
	}
}

func TestLinkAsksForMembersOfConstants(t *testing.T) {
	family := []api.Class{
		having("A", "", field("x", plain(api.TInt)), void("f")), having("B", "A"), having("C", "B", field("y", plain(api.TCplx)), void("g")), having("D", ""), having("E", "Fault"), start(),
	}
	for _, c := range []struct {
		k     api.Const
		found bool
	}{
		{ofClass("A"), true}, {ofClass("C"), true}, {ofClass("P"), true}, {ofClass("Object"), true}, {ofClass("Fault"), true}, {ofClass("Main"), true},
		{ofField("A", "x"), true}, {ofField("B", "x"), true}, {ofField("C", "x"), true}, {ofField("C", "y"), true}, {ofField("P", "p"), true}, {ofField("Fault", "code"), true}, {ofField("E", "code"), true},
		{ofField("A", "y"), false}, {ofField("B", "y"), false}, {ofField("A", "f"), false}, {ofField("A", "X"), false}, {ofField("D", "x"), false}, {ofField("A", "p"), false}, {ofField("P", "x"), false},
		{ofField("Object", "x"), false}, {ofField("Object", "code"), false}, {ofField("Fault", "x"), false}, {ofField("A", "code"), false}, {ofField("Main", "main"), false}, {ofField("P", "q"), false},
		{ofMethod("A", "f"), true}, {ofMethod("B", "f"), true}, {ofMethod("C", "f"), true}, {ofMethod("C", "g"), true}, {ofMethod("P", "q"), true}, {ofMethod("Main", "main"), true},
		{ofMethod("A", "g"), false}, {ofMethod("B", "g"), false}, {ofMethod("A", "x"), false}, {ofMethod("D", "f"), false}, {ofMethod("E", "code"), false}, {ofMethod("P", "p"), false}, {ofMethod("P", "f"), false},
		{ofMethod("Object", "f"), false}, {ofMethod("Object", "main"), false}, {ofMethod("Fault", "code"), false}, {ofMethod("Fault", "f"), false}, {ofMethod("A", "main"), false}, {ofMethod("Main", "Main"), false},
		{api.Const{Kind: api.CInt}, true}, {api.Const{Kind: api.CInt, Int: -7}, true}, {api.Const{Kind: api.CCplx, Cplx: 2i}, true},
	} {
		l := append([]api.Class{having("P", "", c.k, field("p", plain(api.TInt)), void("q"))}, family...)
		if c.found {
			made(t, l...)
		} else {
			expectRefused(t, api.ErrMember, l...)
		}
	}
}

func TestLinkAsksForMain(t *testing.T) {
	integer := plain(api.TInt)
	for _, l := range [][]api.Class{
		{having("A", "", void("main"))}, {having("main", "", void("main"))}, {having("Mein", "", void("main"))}, {having("Main", "")}, {having("Main", "", void("Main"))}, {having("Main", "", field("main", integer))},
		{having("Main", "", void("main", integer))}, {having("Main", "", method("main", integer))}, {having("Main", "", void("main", ref("Main")))}, {having("Main", "", method("main", ref("Main")))}, {having("Main", "", method("main", integer, integer))},
		{having("Main", ""), having("A", "Main", void("main"))}, {having("Main", "Fault"), having("A", "", void("main"))},
		{having("Main", "A"), having("A", "", void("main", integer))}, {having("Main", "A"), having("A", "B"), having("B", "", method("main", plain(api.TCplx)))},
	} {
		expectRefused(t, api.ErrMain, l...)
	}
	made(t, start())
	made(t, having("Main", "Fault", void("e", integer), void("main"), method("n", integer)))
	made(t, having("Main", "A"), having("A", "", void("main")))
	made(t, having("A", "", void("main")), having("Main", "B"), having("B", "A"))
	made(t, having("A", "", void("main")), having("Main", "A", void("main")))
}

// misfit: a class, and what is told of it.
type misfit struct {
	class api.Class
	want  api.Errno
}

// misfits: below T, in the order in which one class is asked for them.
func misfits(name string) []misfit {
	return []misfit{
		{having(name, "T", field("z", ref("X"))), api.ErrNoClass},
		{having(name, "T", void("y", ref("X"))), api.ErrNoClass},
		{having(name, "T", method("z", ref("X"))), api.ErrNoClass},
		{having(name, "T", field("x", plain(api.TInt))), api.ErrTwice},
		{having(name, "T", void("f", plain(api.TInt))), api.ErrTable},
		{having(name, "T", ofClass("X")), api.ErrNoClass},
		{having(name, "T", ofField("T", "z")), api.ErrMember},
		{having(name, "T", ofMethod("T", "z")), api.ErrMember},
	}
}

// together: what both classes have, under one name.
func together(a, b api.Class) api.Class {
	a.Pool = append(append([]api.Const{}, a.Pool...), b.Pool...)
	a.Fields = append(append([]api.Field{}, a.Fields...), b.Fields...)
	a.Methods = append(append([]api.Method{}, a.Methods...), b.Methods...)
	return a
}

func TestLinkTellsWhatIsAskedForFirst(t *testing.T) {
	top := having("T", "", field("x", plain(api.TInt)), void("f"))
	const members = 5 // of misfits; behind them those of constants
	for at, first := range misfits("P") {
		for behind, later := range misfits("Q") {
			// Class by class, whatever each one has: all of members ahead of all of constants.
			want := first.want
			if at >= members && behind < members {
				want = later.want
			}
			expectRefusedWithStart(t, want, top, first.class, later.class)
			expectRefusedWithStart(t, want, first.class, later.class, top)
			expectRefused(t, want, first.class, top, later.class)
			if at >= members && behind >= members {
				// Constant by constant, whatever each one lacks.
				expectRefusedWithStart(t, first.want, top, together(first.class, later.class))
			} else if at != behind {
				inOne := misfits("P")[min(at, behind)].want
				expectRefusedWithStart(t, inOne, top, together(first.class, later.class))
				expectRefusedWithStart(t, inOne, together(later.class, first.class), top)
			}
		}
		// No Main is told behind all else.
		expectRefused(t, first.want, top, first.class)
		expectRefused(t, first.want, top, having("Main", ""), first.class)
		expectRefused(t, first.want, first.class, top, having("Main", "", method("main", plain(api.TInt))))
	}
}

func TestLinkOfTheLongestNamesAndLists(t *testing.T) {
	long := strings.Repeat("n", api.MaxName)
	whole := having(long, "")
	for at := range api.MaxFields {
		whole.Fields = append(whole.Fields, field("x"+strconv.Itoa(at), plain(api.TCplx)))
	}
	for at := range api.MaxMethods {
		whole.Methods = append(whole.Methods, void("f"+strconv.Itoa(at)))
	}
	for range api.MaxPool {
		whole.Pool = append(whole.Pool, ofMethod(long, "f11"))
	}
	p := made(t, start(), whole)
	if s, ok := p.Field(long, "x7"); !ok || s.At != 14 {
		t.Errorf("P7.2: the last field: %v", s)
	}
	if l, _ := p.Layout(long); l.Words != 16 || len(l.Table) != 12 {
		t.Errorf("P7.2: %v", l)
	}
	whole.Pool[127].Name = "f12"
	expectRefused(t, api.ErrMember, start(), whole)
}
