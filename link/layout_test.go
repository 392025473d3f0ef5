package link

import (
	"fmt"
	"math"
	"slices"
	"strings"
	"testing"

	"loom/api"
	"loom/class"
)

// family: A above B above C and beside them D, E below Fault, F below E; the lower ones first.
func family() []api.Class {
	integer, complexNumber := plain(api.TInt), plain(api.TCplx)
	return []api.Class{
		having("C", "B", field("v", complexNumber), api.Field{Name: "w", Type: ref("A"), Volatile: true}, void("f", integer), method("c", ref("C")), void("main")),
		having("B", "A", api.Field{Name: "y", Type: complexNumber, Volatile: true}, field("z", plain(api.TArr)), void("b"), void("f", integer)),
		having("A", "", field("x", integer), void("f", integer), void("a"), void("Z")),
		having("Main", "Object", void("main"), ofClass("C"), ofField("C", "x"), ofMethod("C", "a"), api.Const{Kind: api.CCplx, Cplx: complex(math.Copysign(0, -1), 2)}),
		having("D", "A", field("y", integer), void("f", integer)),
		having("F", "E", field("x", complexNumber), field("y", integer)),
		having("E", "Fault", field("e", complexNumber)),
	}
}

// names of family, by their numbers.
func familyNames() []string { return strings.Fields("Object Fault C B A Main D F E") }

// strangers: names of no class, field or method of family.
func strangers() []string {
	return []string{"", "X", "object", "fault", "main ", "A\x00", "AA", "1", "Code", "\x00", "é", strings.Repeat("A", 1000)}
}

// show: a text of all that a value has; a nil list and an empty one are the same.
func show(values ...any) string { return fmt.Sprintf("%+v", values) }

// slotsOf: each slot as its class, its field's name, where it lies.
func slotsOf(l api.Layout) string {
	text := ""
	for _, s := range l.Fields {
		text += fmt.Sprintf(" %s.%s@%d", s.Class, s.Field.Name, s.At)
	}
	return text
}

// tableOf: each entry as its class, its name.
func tableOf(l api.Layout) string {
	text := ""
	for _, e := range l.Table {
		text += " " + e.Class + "." + e.Name
	}
	return text
}

func TestLayout(t *testing.T) {
	p := made(t, family()...)
	for _, c := range []struct {
		ancestors, slots string
		words            int
		table            string
	}{
		{"Object", "", 0, ""},
		{"Fault Object", " Fault.code@0", 1, ""},
		{"A Object", " A.x@0", 1, " A.Z A.a A.f"},
		{"B A Object", " A.x@0 B.y@1 B.z@3", 4, " A.Z A.a B.b B.f"},
		{"C B A Object", " A.x@0 B.y@1 B.z@3 C.v@4 C.w@6", 7, " A.Z A.a B.b C.c C.f C.main"},
		{"D A Object", " A.x@0 D.y@1", 2, " A.Z A.a D.f"},
		{"E Fault Object", " Fault.code@0 E.e@1", 3, ""},
		{"F E Fault Object", " Fault.code@0 E.e@1 F.x@3 F.y@5", 6, ""},
		{"Main Object", "", 0, " Main.main"},
	} {
		want := strings.Fields(c.ancestors)
		l, ok := p.Layout(want[0])
		if !ok || l.Name != want[0] || !slices.Equal(l.Ancestors, want) || slotsOf(l) != c.slots || l.Words != c.words || tableOf(l) != c.table {
			t.Errorf("P7.2: Layout of %s: %v, %+v", want[0], ok, l)
		}
	}
}

func TestLayoutTellsWholeFields(t *testing.T) {
	p := made(t, family()...)
	l, _ := p.Layout("C")
	want := []api.Slot{
		{Class: "A", Field: field("x", plain(api.TInt)), At: 0},
		{Class: "B", Field: api.Field{Name: "y", Type: plain(api.TCplx), Volatile: true}, At: 1},
		{Class: "B", Field: field("z", plain(api.TArr)), At: 3},
		{Class: "C", Field: field("v", plain(api.TCplx)), At: 4},
		{Class: "C", Field: api.Field{Name: "w", Type: ref("A"), Volatile: true}, At: 6},
	}
	if !slices.Equal(l.Fields, want) {
		t.Errorf("P7.2: slots of C: %+v", l.Fields)
	}
	l, _ = p.Layout("Fault")
	if !slices.Equal(l.Fields, []api.Slot{{Class: "Fault", Field: field("code", plain(api.TInt))}}) {
		t.Errorf("P7.2: slots of Fault: %+v", l.Fields)
	}
}

// The chapter's example.
func TestLayoutOfTwoClasses(t *testing.T) {
	p := made(t, having("A", "", field("x", plain(api.TInt))), having("B", "A", field("y", plain(api.TCplx))), start())
	if l, _ := p.Layout("B"); slotsOf(l) != " A.x@0 B.y@1" || l.Words != 3 {
		t.Errorf("P7.2: %+v", l)
	}
}

func TestTableRisesByteByByte(t *testing.T) {
	top, middle, bottom := having("T", ""), having("M", "T"), having("B", "M")
	for _, name := range strings.Fields("zz a Z aaa _ A0 b") {
		top.Methods = append(top.Methods, void(name))
	}
	for _, name := range strings.Fields("b aa $ zz") {
		middle.Methods = append(middle.Methods, void(name))
	}
	for _, name := range strings.Fields("z aA zz A a9 _$ aaa") {
		bottom.Methods = append(bottom.Methods, void(name))
	}
	p := made(t, middle, bottom, top, start())
	for name, want := range map[string]string{
		"T": " T.A0 T.Z T._ T.a T.aaa T.b T.zz",
		"M": " M.$ T.A0 T.Z T._ T.a M.aa T.aaa M.b M.zz",
		"B": " M.$ B.A T.A0 T.Z T._ B._$ T.a B.a9 B.aA M.aa B.aaa M.b B.z B.zz",
	} {
		if l, _ := p.Layout(name); tableOf(l) != want {
			t.Errorf("P7.2: Table of %s:%s, not%s", name, tableOf(l), want)
		}
	}
}

func TestNothingOfNamesThatAreNotThere(t *testing.T) {
	p := made(t, family()...)
	for _, name := range append(strangers(), "f", "x", "code", "main") {
		if l, ok := p.Layout(name); ok || show(l) != show(api.Layout{}) {
			t.Errorf("P7.2: Layout(%q): %+v, %v", name, l, ok)
		}
		if c, ok := p.Class(name); ok || show(c) != show(api.Class{}) {
			t.Errorf("P7.2: Class(%q): %+v, %v", name, c, ok)
		}
		if n := p.Number(name); n != -1 {
			t.Errorf("P7.2: Number(%q): %d", name, n)
		}
		for _, member := range append(strangers(), "f", "x", "code", "main") {
			expectNoField(t, p, name, member)
			expectNoMethod(t, p, name, member)
		}
	}
	for _, name := range familyNames() {
		for _, member := range append(strangers(), "A", "Main", "X", "F") {
			expectNoField(t, p, name, member)
			expectNoMethod(t, p, name, member)
		}
	}
}

func expectNoField(t *testing.T, p *Program, class, name string) {
	t.Helper()
	if s, ok := p.Field(class, name); ok || s != (api.Slot{}) {
		t.Errorf("P7.2: Field(%q, %q): %+v, %v", class, name, s, ok)
	}
}

func expectNoMethod(t *testing.T, p *Program, class, name string) {
	t.Helper()
	if who, m, ok := p.Method(class, name); ok || who != "" || show(m) != show(api.Method{}) {
		t.Errorf("P7.2: Method(%q, %q): %q, %+v, %v", class, name, who, m, ok)
	}
}

func TestNumberAndName(t *testing.T) {
	p := made(t, family()...)
	for want, name := range familyNames() {
		if got := p.Number(name); got != want {
			t.Errorf("P7.2: Number(%q): %d", name, got)
		}
		if got := p.Name(want); got != name {
			t.Errorf("P7.2: Name(%d): %q", want, got)
		}
	}
	for _, number := range []int{-1, -2, -9, 9, 10, 16, 17, 18, 1000, math.MaxInt32, math.MaxInt, math.MinInt, math.MinInt32, 1 << 32} {
		if got := p.Name(number); got != "" {
			t.Errorf("P7.2: Name(%d): %q", number, got)
		}
	}
}

func TestClassAsItWasHandedIn(t *testing.T) {
	p := made(t, family()...)
	for _, want := range family() {
		if got, ok := p.Class(want.Name); !ok || !class.Same(got, want) {
			t.Errorf("P7.2: Class(%q): %+v, %v", want.Name, got, ok)
		}
	}
	rich := start()
	rich.Methods = append(rich.Methods, richMethod())
	rich.Pool = append(rich.Pool, ofClass("Fault"))
	if got, ok := made(t, rich).Class("Main"); !ok || !class.Same(got, rich) {
		t.Errorf("P7.2: Class: %+v, %v", got, ok)
	}
}

// richMethod: with something in each of its parts; constant 0 is a CClass.
func richMethod() api.Method {
	return api.Method{
		Name: "rich", Params: []api.Type{plain(api.TInt), ref("Main")}, Ret: ref("Object"), Locals: 9, Stack: 5,
		Code:     []api.Ins{{Op: api.Nop}, {Op: api.New, A: 0}, {Op: api.Throw}},
		Handlers: []api.Handler{{From: 0, To: 2, Target: 2, Class: -1}, {From: 1, To: 3, Target: 1, Class: 0, Depth: 2}},
	}
}

func TestClassOfObjectAndFault(t *testing.T) {
	for _, l := range [][]api.Class{family(), {start()}} {
		p := made(t, l...)
		if c, ok := p.Class("Object"); !ok || !class.Same(c, api.Class{Name: "Object"}) {
			t.Errorf("P7.2: Class of Object: %+v, %v", c, ok)
		}
		if c, ok := p.Class("Fault"); !ok || !class.Same(c, having("Fault", "", field("code", plain(api.TInt)))) {
			t.Errorf("P7.2: Class of Fault: %+v, %v", c, ok)
		}
	}
}

func TestField(t *testing.T) {
	p := made(t, family()...)
	for _, c := range []struct {
		class, name string
		want        api.Slot
	}{
		{"A", "x", api.Slot{Class: "A", Field: field("x", plain(api.TInt))}},
		{"B", "x", api.Slot{Class: "A", Field: field("x", plain(api.TInt))}},
		{"C", "y", api.Slot{Class: "B", Field: api.Field{Name: "y", Type: plain(api.TCplx), Volatile: true}, At: 1}},
		{"C", "w", api.Slot{Class: "C", Field: api.Field{Name: "w", Type: ref("A"), Volatile: true}, At: 6}},
		{"D", "y", api.Slot{Class: "D", Field: field("y", plain(api.TInt)), At: 1}},
		{"F", "y", api.Slot{Class: "F", Field: field("y", plain(api.TInt)), At: 5}},
		{"Fault", "code", api.Slot{Class: "Fault", Field: field("code", plain(api.TInt))}},
		{"F", "code", api.Slot{Class: "Fault", Field: field("code", plain(api.TInt))}},
	} {
		if got, ok := p.Field(c.class, c.name); !ok || got != c.want {
			t.Errorf("P7.2: Field(%q, %q): %+v, %v", c.class, c.name, got, ok)
		}
	}
	for _, c := range [][2]string{{"A", "y"}, {"B", "v"}, {"D", "z"}, {"E", "x"}, {"Fault", "e"}, {"Fault", "x"}, {"Object", "code"}, {"Object", "x"}, {"Main", "main"}, {"A", "f"}, {"A", "code"}, {"C", "c"}} {
		expectNoField(t, p, c[0], c[1])
	}
}

func TestMethod(t *testing.T) {
	p := made(t, family()...)
	for _, c := range []struct{ class, name, who string }{
		{"A", "f", "A"}, {"B", "f", "B"}, {"C", "f", "C"}, {"D", "f", "D"}, {"B", "a", "A"}, {"C", "a", "A"}, {"C", "b", "B"}, {"C", "c", "C"}, {"D", "Z", "A"}, {"C", "main", "C"}, {"Main", "main", "Main"},
	} {
		whole, _ := p.Class(c.who)
		want := whole.Methods[slices.IndexFunc(whole.Methods, func(m api.Method) bool { return m.Name == c.name })]
		if who, m, ok := p.Method(c.class, c.name); !ok || who != c.who || show(m) != show(want) {
			t.Errorf("P7.2: Method(%q, %q): %q, %+v, %v", c.class, c.name, who, m, ok)
		}
	}
	for _, c := range [][2]string{{"A", "b"}, {"B", "c"}, {"D", "b"}, {"A", "x"}, {"A", "main"}, {"Object", "f"}, {"Object", "main"}, {"Fault", "code"}, {"F", "f"}, {"Main", "f"}} {
		expectNoMethod(t, p, c[0], c[1])
	}
}

// Which of two methods of one name and one face is told shows in what it does.
func TestMethodTellsTheNearestOne(t *testing.T) {
	doing := func(nops int) api.Method {
		m := void("f")
		m.Code = append(make([]api.Ins, nops), m.Code...)
		m.Handlers = []api.Handler{{To: 1, Class: -1, Depth: nops}}
		m.Stack, m.Locals = nops, nops+1
		return m
	}
	p := made(t, having("C", "B", void("e"), doing(3)), having("B", "A"), having("A", "", doing(1)), having("D", "C"), start())
	for _, c := range []struct {
		class, who string
		nops       int
	}{{"A", "A", 1}, {"B", "A", 1}, {"C", "C", 3}, {"D", "C", 3}} {
		if who, m, ok := p.Method(c.class, "f"); !ok || who != c.who || show(m) != show(doing(c.nops)) {
			t.Errorf("P7.2: Method(%q, f): %q, %+v, %v", c.class, who, m, ok)
		}
	}
}

func TestHier(t *testing.T) {
	p := made(t, family()...)
	h := p.Hier()
	if h == nil {
		t.Fatal("P7.2: no Hier")
	}
	if !slices.Equal(h.Names(), familyNames()) || !slices.Equal(h.Ancestors("C"), strings.Fields("C B A Object")) || !h.Sub("F", "Fault") || h.Sub("A", "B") || h.Common("C", "D") != "A" || h.Has("X") {
		t.Errorf("P7.2: Hier: %q, %q", h.Names(), h.Ancestors("C"))
	}
	if h := made(t, start()).Hier(); !slices.Equal(h.Names(), strings.Fields("Object Fault Main")) {
		t.Errorf("P7.2: Hier: %q", h.Names())
	}
}

// Where a class stands in the list tells its number, and nothing else.
func TestOrderMakesNoDifferenceToLayouts(t *testing.T) {
	first := made(t, family()...)
	others := [][]api.Class{family(), family(), family()}
	slices.Reverse(others[0])
	slices.SortFunc(others[1], func(a, b api.Class) int { return strings.Compare(a.Name, b.Name) })
	others[2] = append(others[2][3:], others[2][:3]...)
	for _, l := range others {
		p := made(t, l...)
		for at, c := range l {
			if p.Number(c.Name) != at+2 || p.Name(at+2) != c.Name {
				t.Errorf("P7.2: Number(%q): %d", c.Name, p.Number(c.Name))
			}
		}
		for _, name := range familyNames() {
			want, _ := first.Layout(name)
			if got, ok := p.Layout(name); !ok || show(got) != show(want) {
				t.Errorf("P7.2: Layout(%q): %+v, not %+v", name, got, want)
			}
		}
	}
}

// expectBeginsLikeAbove: P7.3 of each class of p.
func expectBeginsLikeAbove(t *testing.T, p *Program) {
	t.Helper()
	for _, name := range p.Hier().Names() {
		l, _ := p.Layout(name)
		for _, other := range l.Ancestors {
			above, ok := p.Layout(other)
			if !ok || len(above.Fields) > len(l.Fields) || !slices.Equal(above.Fields, l.Fields[:len(above.Fields)]) || above.Words > l.Words {
				t.Errorf("P7.3: the layout of %s, %+v, doesn't begin like that of %s, %+v", name, l, other, above)
			}
			expectAnswersLikeAbove(t, p, l, above)
		}
	}
}

// expectAnswersLikeAbove: what is there for an object of the class above is there, with the same types, for one of the class below, and is what that one's own table says.
func expectAnswersLikeAbove(t *testing.T, p *Program, l, above api.Layout) {
	t.Helper()
	for _, e := range above.Table {
		_, asked, _ := p.Method(above.Name, e.Name)
		who, m, ok := p.Method(l.Name, e.Name)
		if !ok || !slices.Contains(l.Table, api.Entry{Name: e.Name, Class: who}) || !slices.Equal(m.Params, asked.Params) || m.Ret != asked.Ret {
			t.Errorf("P7.3: Method(%q, %q): %q, %+v, %v", l.Name, e.Name, who, m, ok)
		}
	}
	for _, s := range above.Fields {
		if got, ok := p.Field(l.Name, s.Field.Name); !ok || got != s {
			t.Errorf("P7.3: Field(%q, %q): %+v, %v", l.Name, s.Field.Name, got, ok)
		}
	}
}

func TestLayoutBeginsWithTheOneAbove(t *testing.T) {
	expectBeginsLikeAbove(t, made(t, family()...))
	expectBeginsLikeAbove(t, made(t, start()))
}
