package class

import (
	"math"
	"slices"
	"strings"
	"testing"

	"loom/api"
)

func plain(kind int) api.Type { return api.Type{Kind: kind} }

func ref(class string) api.Type { return api.Type{Kind: api.TRef, Class: class} }

// sample: a class that has something of everything.
func sample() api.Class {
	return api.Class{
		Name: "Main", Super: "A",
		Pool: []api.Const{
			{Kind: api.CInt, Int: -5}, {Kind: api.CCplx, Cplx: complex(1, -2)}, {Kind: api.CClass, Class: "A"},
			{Kind: api.CField, Class: "A", Name: "x"}, {Kind: api.CMethod, Class: "$B", Name: "_f9"}, {Kind: api.CInt}, {Kind: api.CCplx},
		},
		Fields: []api.Field{
			{Name: "x", Type: plain(api.TInt)}, {Name: "y", Type: ref("A"), Volatile: true},
			{Name: "z", Type: plain(api.TCplx)}, {Name: "w", Type: plain(api.TArr), Volatile: true},
		},
		Methods: []api.Method{sampleMethod(), {
			Name: "main", Ret: plain(api.TVoid), Locals: 1,
			Code: []api.Ins{{Op: api.Load}, {Op: api.Throw}},
		}, {
			Name: "x", Params: []api.Type{plain(api.TInt)}, Ret: plain(api.TArr), Locals: 32, Stack: 64,
			Code: []api.Ins{{Op: api.Null}, {Op: api.RetVal}}, Handlers: []api.Handler{{To: 2, Target: 1, Class: 2, Depth: 6}},
		}},
	}
}

func sampleMethod() api.Method {
	return api.Method{
		Name: "f", Params: []api.Type{plain(api.TCplx), plain(api.TArr), ref("Main")}, Ret: ref("A"), Locals: 5, Stack: 3,
		Code: []api.Ins{
			{Op: api.PushInt}, {Op: api.PushCplx, A: 1}, {Op: api.New, A: 2}, {Op: api.Cast, A: 2}, {Op: api.Is, A: 2}, {Op: api.GetField, A: 3}, {Op: api.PutField, A: 3},
			{Op: api.Call, A: 4}, {Op: api.Spawn, A: 4}, {Op: api.Load, A: 4}, {Op: api.Store, A: 4}, {Op: api.Enter}, {Op: api.Exit}, {Op: api.IfZero, A: 16}, {Op: api.IfOne}, {Op: api.Nop}, {Op: api.Goto, A: 1},
		},
		Handlers: []api.Handler{{From: 0, To: 17, Target: 16, Class: -1}, {From: 3, To: 4, Target: 0, Class: 2, Depth: 1}},
	}
}

// greatest: a class of which each part is as long as it may be.
func greatest() api.Class {
	long := strings.Repeat("n", api.MaxName)
	unlike := func(i int) string { return long[1:] + string(rune('a'+i)) }
	c := api.Class{Name: long, Super: long}
	for range api.MaxPool {
		c.Pool = append(c.Pool, api.Const{Kind: api.CMethod, Class: long, Name: long})
	}
	c.Pool[api.MaxPool-1] = api.Const{Kind: api.CClass, Class: long}
	for i := range api.MaxFields {
		c.Fields = append(c.Fields, api.Field{Name: unlike(i), Type: ref(long), Volatile: true})
	}
	for i := range api.MaxMethods {
		c.Methods = append(c.Methods, api.Method{
			Name: unlike(i), Params: slices.Repeat([]api.Type{ref(long)}, api.MaxParams), Ret: ref(long), Locals: api.MaxLocals, Stack: api.MaxStack,
			Code:     slices.Repeat([]api.Ins{{Op: api.Goto, A: api.MaxCode - 1}}, api.MaxCode),
			Handlers: slices.Repeat([]api.Handler{{From: api.MaxCode - 1, To: api.MaxCode, Target: api.MaxCode - 1, Class: api.MaxPool - 1, Depth: api.MaxLocks}}, api.MaxHandlers),
		})
	}
	return c
}

func TestNamesByTheirLength(t *testing.T) {
	for length := range 300 {
		for _, letter := range []string{"a", "Z", "_", "$"} {
			s := strings.Repeat(letter, length)
			if got, want := IsName(s), length >= 1 && length <= 20; got != want {
				t.Errorf("P5.1: IsName of %d times %s: %v", length, letter, got)
			}
		}
	}
}

func TestNamesByTheirBytes(t *testing.T) {
	const letters = "abcdefghijklmnopqrstuvwxyzABCDEFGHIJKLMNOPQRSTUVWXYZ_$"
	for n := range 256 {
		b := string([]byte{byte(n)})
		first := strings.Contains(letters, b)
		later := first || strings.Contains("0123456789", b)
		if got := IsName(b); got != first {
			t.Errorf("P5.1: IsName(%q): %v", b, got)
		}
		if got := IsName(b + "a"); got != first {
			t.Errorf("P5.1: IsName(%q): %v", b+"a", got)
		}
		for _, s := range []string{"a" + b, "a" + b + "c", "$" + strings.Repeat("8", 18) + b} {
			if got := IsName(s); got != later {
				t.Errorf("P5.1: IsName(%q): %v", s, got)
			}
		}
	}
	for _, s := range []string{"é", "aé", "ª", "９", " a", "a ", "a.b", "a\x00", "1", "99"} {
		if IsName(s) {
			t.Errorf("P5.1: IsName(%q)", s)
		}
	}
}

func TestTypes(t *testing.T) {
	kinds := []int{api.TVoid, api.TInt, api.TCplx, api.TArr, api.TRef, api.TNull, api.TTop, api.TTop + 1, -1, 255, 256, 256 + api.TInt, 1<<32 + api.TRef, math.MaxInt, math.MinInt, math.MinInt + api.TInt}
	classes := map[string]bool{"": false, "A": true, "Object": true, "9": false, "a b": false, strings.Repeat("a", 20): true, strings.Repeat("a", 21): false}
	for _, kind := range kinds {
		for class, isName := range classes {
			for _, void := range []bool{false, true} {
				want := false
				switch kind {
				case api.TInt, api.TCplx, api.TArr:
					want = class == ""
				case api.TRef:
					want = isName
				case api.TVoid:
					want = void && class == ""
				}
				if got := IsType(api.Type{Kind: kind, Class: class}, void); got != want {
					t.Errorf("P5.1: IsType({%d, %q}, %v): %v", kind, class, void, got)
				}
			}
		}
	}
}

// changed: the sample as it is after one change.
func changed(change func(c *api.Class)) api.Class {
	c := sample()
	change(&c)
	return c
}

// unlikes: classes of which each differs from the sample, and from each other one, most in one field alone; not all of them are ones that Check takes.
func unlikes() []api.Class {
	var list []api.Class
	add := func(change func(c *api.Class)) { list = append(list, changed(change)) }
	add(func(c *api.Class) { c.Name = "Mains" })
	add(func(c *api.Class) { c.Super = "" })
	add(func(c *api.Class) { c.Pool = nil })
	add(func(c *api.Class) { c.Pool = c.Pool[:6] })
	add(func(c *api.Class) { c.Pool = append(c.Pool, api.Const{}) })
	add(func(c *api.Class) { c.Pool[3], c.Pool[4] = c.Pool[4], c.Pool[3] })
	for at := range 7 {
		add(func(c *api.Class) { c.Pool[at].Kind = 9 })
		add(func(c *api.Class) { c.Pool[at].Int++ })
		add(func(c *api.Class) { c.Pool[at].Cplx += 1 })
		add(func(c *api.Class) { c.Pool[at].Cplx += 1i })
		add(func(c *api.Class) { c.Pool[at].Class += "c" })
		add(func(c *api.Class) { c.Pool[at].Name += "n" })
	}
	for _, number := range edges()[1:] {
		add(func(c *api.Class) { c.Pool[6].Cplx = number })
	}
	add(func(c *api.Class) { c.Fields = nil })
	add(func(c *api.Class) { c.Fields = c.Fields[:3] })
	add(func(c *api.Class) { c.Fields = append(c.Fields, api.Field{}) })
	add(func(c *api.Class) { c.Fields[0], c.Fields[1] = c.Fields[1], c.Fields[0] })
	for at := range 4 {
		add(func(c *api.Class) { c.Fields[at].Name += "n" })
		add(func(c *api.Class) { c.Fields[at].Type.Kind = 9 })
		add(func(c *api.Class) { c.Fields[at].Type.Class += "c" })
		add(func(c *api.Class) { c.Fields[at].Volatile = !c.Fields[at].Volatile })
	}
	add(func(c *api.Class) { c.Methods = nil })
	add(func(c *api.Class) { c.Methods = c.Methods[:2] })
	add(func(c *api.Class) { c.Methods = append(c.Methods, api.Method{}) })
	add(func(c *api.Class) { c.Methods[0], c.Methods[1] = c.Methods[1], c.Methods[0] })
	for at := range 3 {
		list = append(list, unlikeMethods(at)...)
	}
	return list
}

// unlikeMethods: those of unlikes that differ in the method at that place.
func unlikeMethods(at int) []api.Class {
	var list []api.Class
	add := func(change func(m *api.Method)) {
		list = append(list, changed(func(c *api.Class) { change(&c.Methods[at]) }))
	}
	add(func(m *api.Method) { m.Name += "n" })
	add(func(m *api.Method) { m.Params = append(m.Params, api.Type{}) })
	add(func(m *api.Method) { m.Ret.Kind = 9 })
	add(func(m *api.Method) { m.Ret.Class += "c" })
	add(func(m *api.Method) { m.Locals++ })
	add(func(m *api.Method) { m.Stack++ })
	add(func(m *api.Method) { m.Code = nil })
	add(func(m *api.Method) { m.Code = append(m.Code, api.Ins{}) })
	add(func(m *api.Method) { m.Handlers = append(m.Handlers, api.Handler{}) })
	for i := range sample().Methods[at].Params {
		add(func(m *api.Method) { m.Params[i].Kind = 9 })
		add(func(m *api.Method) { m.Params[i].Class += "c" })
	}
	for i := range sample().Methods[at].Code {
		add(func(m *api.Method) { m.Code[i].Op += 99 })
		add(func(m *api.Method) { m.Code[i].A += 99 })
	}
	for i := range sample().Methods[at].Handlers {
		add(func(m *api.Method) { m.Handlers[i].From += 99 })
		add(func(m *api.Method) { m.Handlers[i].To += 99 })
		add(func(m *api.Method) { m.Handlers[i].Target += 99 })
		add(func(m *api.Method) { m.Handlers[i].Class += 99 })
		add(func(m *api.Method) { m.Handlers[i].Depth += 99 })
	}
	return list
}

// edges: complex numbers of unlike bits: all noughts (that of zero bits first), and NaNs.
func edges() []complex128 {
	minus := math.Copysign(0, -1)
	quiet, other, below, signalling := math.NaN(), math.Float64frombits(0x7ff8000000000002), math.Float64frombits(0xfff8000000000001), math.Float64frombits(0x7ff0000000000001)
	return []complex128{
		0, complex(minus, 0), complex(0, minus), complex(minus, minus),
		complex(quiet, 0), complex(0, quiet), complex(other, 0), complex(0, other), complex(below, 0), complex(0, below),
		complex(signalling, 0), complex(0, signalling), complex(math.Inf(1), 0), complex(0, math.Inf(-1)),
		complex(math.SmallestNonzeroFloat64, 0), complex(0, -math.SmallestNonzeroFloat64),
	}
}

func TestSameHoldsOfAlikeOnes(t *testing.T) {
	for at, c := range unlikes() {
		if !Same(c, c) || !Same(c, unlikes()[at]) {
			t.Errorf("P5.5: class %d isn't the same as itself", at)
		}
	}
	none := api.Class{Name: "A", Methods: []api.Method{{}}}
	empty := api.Class{Name: "A", Pool: []api.Const{}, Fields: []api.Field{}, Methods: []api.Method{{Params: []api.Type{}, Code: []api.Ins{}, Handlers: []api.Handler{}}}}
	if !Same(none, empty) || !Same(empty, none) || !Same(api.Class{}, api.Class{Methods: []api.Method{}}) {
		t.Error("P5.5: nil and empty lists")
	}
	if !Same(sample(), sample()) || !Same(greatest(), greatest()) {
		t.Error("P5.5: made twice")
	}
}

func TestSameHoldsOfNoUnlikeOnes(t *testing.T) {
	list := append(unlikes(), sample(), greatest(), api.Class{})
	for i, a := range list {
		for j, b := range list {
			if i != j && Same(a, b) {
				t.Errorf("P5.5: classes %d and %d are told to be the same", i, j)
			}
		}
	}
}
