package parse

import (
	"fmt"
	"slices"
	"strings"
	"testing"

	"loom/api"
)

// show: what Print should tell of a tree, and something or other of what is none.
func show(n api.Node) string {
	var l []string
	showTo(&l, n)
	return strings.Join(l, " ")
}

// showTo: by n's form.
func showTo(l *[]string, n api.Node) {
	for _, s := range strings.Fields(formOf(n)) {
		i := int(s[0] - '0')
		isChild := i >= 0 && i <= 9
		switch {
		case s == "@":
			*l = append(*l, n.Text)
		case s[0] == '#':
			*l = append(*l, s[1:])
		case s == "$":
			if len(n.Kids) > 1 {
				showTo(l, n.Kids[len(n.Kids)-1])
			}
		case !isChild:
			*l = append(*l, s)
		case len(s) == 1 && i < len(n.Kids):
			showTo(l, n.Kids[i])
		case len(s) > 1:
			last := len(n.Kids) - len(s[2:])
			for ; i < last; i++ {
				showTo(l, n.Kids[i])
				if s[1] == ',' && i < last-1 {
					*l = append(*l, ",")
				}
			}
		}
	}
}

// shown: the forms that hang on the kind alone.
var shown = map[int]string{
	api.NProgram: "0;", api.NParam: "0 @", api.NType: "@", api.NName: "@", api.NBlock: "{ 0; }", api.NAssign: "0 = 1 ;", api.NWhile: "while ( 0 ) 1",
	api.NTry: "try 0 catch ( 1 @ ) 2", api.NSync: "sync ( @ ) 0", api.NExpr: "0 ;", api.NGet: "0 . @", api.NCall: "0 . @ ( 1, )", api.NIndex: "0 [ 1 ]", api.NNew: "new @", api.NNewArr: "new ints [ 0 ]",
	api.NSpawn: "( spawn 0 )", api.NBin: "( 0 @ 1 )", api.NUn: "( @ 0 )", api.NCast: "( 0 as @ )", api.NIs: "( 0 is @ )",
}

// formOf: what stands for n: `@` for its Text, a number for a child, `;` behind it for all from that one on, `,` for these with commas between, but for the last one, if a `-` is behind; `$` for the last one; a text behind `#` as it is.
func formOf(n api.Node) string {
	has := func(child int) bool { return len(n.Kids) > child }
	either := func(is bool, one, other string) string {
		if is {
			return one
		}
		return other
	}
	switch n.Kind {
	case api.NClass:
		return either(has(0) && n.Kids[0].Text != "", "class @ extends 0 { 1; }", "class @ { 1; }")
	case api.NField:
		return either(n.Int != 0, "volatile 0 @ ;", "0 @ ;")
	case api.NMethod:
		return "0 @ ( 1,- ) $"
	case api.NVar:
		return either(has(1), "0 @ = 1 ;", "0 @ ;")
	case api.NIf:
		return either(has(2), "if ( 0 ) 1 else 2", "if ( 0 ) 1")
	case api.NReturn, api.NThrow, api.NYield:
		return kindNames[n.Kind] + " 0; ;"
	case api.NWait, api.NNotify, api.NNotifyAll, api.NJoin, api.NOut:
		return kindNames[n.Kind] + " ( 0 ) ;"
	case api.NInt:
		return fmt.Sprintf("#%d", n.Int)
	case api.NCplx:
		return either(imag(n.Cplx) != 0, fmt.Sprintf("#%.0fi", imag(n.Cplx)), fmt.Sprintf("#%.0fc", real(n.Cplx)))
	case api.NNull, api.NThis:
		return kindNames[n.Kind]
	}
	return shown[n.Kind]
}

// deepest: how deep the tokens that are printed of n are nested, those of n itself so deep.
func deepest(n api.Node, depth int) int {
	most := depth
	for i, kid := range n.Kids {
		by := 0
		switch n.Kind {
		case api.NBlock, api.NBin, api.NCast, api.NIs, api.NNewArr:
			by = 1
		case api.NIf, api.NWhile, api.NIndex, api.NCall:
			by = min(i, 1)
		case api.NUn, api.NSpawn:
			by = 2
		}
		most = max(most, deepest(kid, depth+by))
	}
	if n.Kind == api.NBlock {
		most = max(most, depth+1)
	}
	return most
}

func TestPrints(t *testing.T) {
	for src, want := range map[string]string{
		"1+2*3": "( 1 + ( 2 * 3 ) )", "-a": "( - a )", "~-a": "( ~ ( - a ) )", "a<b": "( a < b )", "a==b!=c": "",
		"a.f(1,b)[2]": "a . f ( 1 , b ) [ 2 ]", "a.f()": "a . f ( )", "(-a).b": "( - a ) . b", "((a))": "a", "(a).b": "a . b",
		"a as B": "( a as B )", "a is B as C": "( ( a is B ) as C )", "spawn a.f()": "( spawn a . f ( ) )", "(spawn a).f()": "( spawn a ) . f ( )",
		"007": "7", "0": "0", "3i": "3i", "4c": "4c", "0i": "0c", "0c": "0c", "005c": "5c", "999999999999999999": "999999999999999999", "999999999999999c": "999999999999999c", "123456789012345i": "123456789012345i",
		"null": "null", "this": "this", "new A": "new A", "new ints[2]": "new ints [ 2 ]", "new ints[1+1][0]": "new ints [ ( 1 + 1 ) ] [ 0 ]", "a[(b)]": "a [ b ]", "// note\na": "a",
	} {
		n, _, _ := Expr(src)
		if got := Print(n); got != want {
			t.Errorf("P19.3: Print of %q: %q, not %q", src, got, want)
		}
	}
	for src, want := range map[string]string{
		"": "", "class A{}": "class A { }", "class A extends B{}class C{}": "class A extends B { } class C { }",
		"class A{volatile int x;B y;}": "class A { volatile int x ; B y ; }", "class A{void f(){}}": "class A { void f ( ) { } }",
		"class A{ints f(int a,B b){return a;}}": "class A { ints f ( int a , B b ) { return a ; } }",
	} {
		n, _, _ := Program(src)
		if got := Print(n); got != want {
			t.Errorf("P19.3: Print of %q: %q, not %q", src, got, want)
		}
	}
	for src, want := range map[string]string{
		"{}": "{ }", "int i;A a=null;": "int i ; A a = null ;", "a=b+1;": "a = ( b + 1 ) ;", "(a)=(b);": "a = b ;", "if(a)yield;": "if ( a ) yield ;", "if(a<b){}else if(c)return;else return 1;": "if ( ( a < b ) ) { } else if ( c ) return ; else return 1 ;",
		"while(a)a.f();": "while ( a ) a . f ( ) ;", "throw a;": "throw a ;", "try{}catch(A a){yield;}": "try { } catch ( A a ) { yield ; }", "sync(a){}": "sync ( a ) { }",
		"wait(a);notify(a);notifyall(a);join(a);out(a);": "wait ( a ) ; notify ( a ) ; notifyall ( a ) ; join ( a ) ; out ( a ) ;", "out(-1);": "out ( ( - 1 ) ) ;", "a+b;": "( a + b ) ;",
	} {
		n, _, err := Program(ahead + src + "}}")
		if got, want := Print(n), "class A { void f ( ) { "+want+" } }"; got != want || err != api.OK {
			t.Errorf("P19.3: Print of %q: %q, not %q", src, got, want)
		}
	}
}

// someTrees: with each kind of nodes, in each place where it may stand.
func someTrees(t testing.TB) []api.Node {
	var all []api.Node
	for _, src := range []string{
		"class A extends B { volatile int x; B y; ints f() { return z; } void g(int a, C b) { } }", "class A { }", "",
		"class A { A f() { int i; B b = 1; c = d; if (a) yield; else { } if (a) while (b) if (c) { } else yield; } }",
		"class A { int f(cpx c) { while (1) b; return; return 2i; throw a; try { yield; } catch (E e) { } sync (a) { wait(a); notify(a); } notifyall(a); join(a); out(a); } }",
	} {
		n, _, err := Program(src)
		if err != api.OK {
			t.Fatal(src)
		}
		all = append(all, n)
	}
	for _, src := range []string{"0", "7", "3c", "4i", "0c", "null", "this", "a", "new A", "new ints[1]", "spawn a", "a.b", "a.f()", "a.f(1, 2)", "a[1]", "a as B", "a is B", "-a", "~a", "a + b", "a < b == c", "(a < b) != c * d / e % f - g", "this.f(spawn -a, (b is C).d)[~3i]"} {
		n, _, err := Expr(src)
		if err == api.OK {
			all = append(all, n)
		}
	}
	return all
}

// isTold: whether n is the tree of a source, by what Program and Expr tell of show's text. (The trees here are neither deep nor long.)
func isTold(n api.Node) bool {
	call := Expr
	if n.Kind == api.NProgram {
		call = Program
	}
	m, _, err := call(show(n))
	return err == api.OK && say(moved(placeless(m), 0)) == say(placeless(n))
}

func placeless(n api.Node) api.Node {
	n.At = 0
	kids := n.Kids
	n.Kids = nil
	for _, kid := range kids {
		n.Kids = append(n.Kids, placeless(kid))
	}
	return n
}

// holdsPrint: Print tells n, if it is a tree, else nothing.
func holdsPrint(t testing.TB, n api.Node) bool {
	t.Helper()
	want := ""
	isTree := isTold(n)
	if isTree {
		want = show(n)
	}
	if got := Print(n); got != want {
		t.Fatalf("P19.3: Print of %s: %q, not %q", say(n), got, want)
	}
	return isTree
}

// changes: n with one thing changed, at each of its nodes.
func changes(n api.Node, each func(api.Node)) {
	set := func(change func(*api.Node)) {
		m := n
		m.Kids = slices.Clone(n.Kids)
		change(&m)
		each(m)
	}
	for kind := -1; kind <= len(kindNames); kind++ {
		set(func(m *api.Node) { m.Kind = kind })
	}
	for _, text := range []string{"", "A", "int", "cpx", "ints", "void", "class", "len", "5", "3i", "-", "~", "+", "*", "/", "%", "<", "==", "!=", "=", ".", " ", "a ", " a", "a b", "a//", "//", "\n", "#", "{", "a;", strings.Repeat("a", 20), strings.Repeat("a", 21), strings.Repeat(" ", 8001), "\x00", "\xff", "extends"} {
		set(func(m *api.Node) { m.Text = text })
	}
	for _, number := range []int64{0, 1, 2, -1, 3, 5, 999999999999999999, 1000000000000000000, 1<<63 - 1, -1 << 63} {
		set(func(m *api.Node) { m.Int = number })
	}
	for _, number := range wildNumbers() {
		set(func(m *api.Node) { m.Cplx = number })
	}
	set(func(m *api.Node) { m.At = 77 })
	set(func(m *api.Node) { m.At = -1 })
	for i := range n.Kids {
		set(func(m *api.Node) { m.Kids = slices.Delete(m.Kids, i, i+1) })
		set(func(m *api.Node) { m.Kids = slices.Insert(m.Kids, i, m.Kids[i]) })
		set(func(m *api.Node) { m.Kids[i], m.Kids[0] = m.Kids[0], m.Kids[i] })
		set(func(m *api.Node) { m.Kids[i] = api.Node{} })
		if len(n.Kids[i].Kids) > 0 {
			set(func(m *api.Node) { m.Kids[i] = n.Kids[i].Kids[0] })
			set(func(m *api.Node) { m.Kids = append(m.Kids, n.Kids[i].Kids...) })
		}
	}
	for _, kid := range []api.Node{{Kind: api.NName, Text: "a"}, {Kind: api.NYield}, {Kind: api.NBlock}, {Kind: api.NType, Text: "int"}, {Kind: api.NType}, {Kind: api.NType, Text: "A"}, {Kind: api.NClass}} {
		set(func(m *api.Node) { m.Kids = append(m.Kids, kid) })
		set(func(m *api.Node) { m.Kids = slices.Insert(m.Kids, 0, kid) })
		for i := range n.Kids {
			set(func(m *api.Node) { m.Kids[i] = kid })
		}
	}
	set(func(m *api.Node) { m.Kids = nil })
	for i := range n.Kids {
		changes(n.Kids[i], func(kid api.Node) {
			set(func(m *api.Node) { m.Kids[i] = kid })
		})
	}
}

func TestPrintsNothingOfWhatIsNone(t *testing.T) {
	trees, others := 0, 0
	for _, n := range someTrees(t) {
		if !holdsPrint(t, n) {
			t.Fatalf("P19.3: no tree: %s", say(n))
		}
		changes(n, func(m api.Node) {
			if holdsPrint(t, m) {
				trees++
			} else {
				others++
			}
		})
	}
	t.Logf("%d changed trees are trees, %d are none", trees, others)
}

// A part of a program isn't one.
func TestPrintsWholesAlone(t *testing.T) {
	for _, n := range someTrees(t) {
		for n.Kind == api.NProgram && len(n.Kids) > 0 {
			for i, kid := range n.Kids {
				if got := Print(kid); got != "" && kid.Kind < api.NInt {
					t.Errorf("P19.3: Print of child %d, %s: %q", i, say(kid), got)
				}
			}
			n = n.Kids[len(n.Kids)-1]
			if n.Kind != api.NProgram {
				break
			}
		}
	}
	for kind := api.NClass; kind < api.NInt; kind++ {
		if got := Print(api.Node{Kind: kind, Text: "A"}); got != "" {
			t.Errorf("P19.3: Print of %s: %q", kindNames[kind], got)
		}
	}
	if Print(api.Node{}) != "" || Print(api.Node{Kind: -1}) != "" || Print(api.Node{Kind: 1 << 62}) != "" || Print(api.Node{Kind: -1 << 63}) != "" {
		t.Error("P19.3: Print of no node")
	}
}

// An else belongs to the nearest if: so one that is another's can't be told.
func TestPrintsNoElseOfAnotherIf(t *testing.T) {
	a, yield := api.Node{Kind: api.NName, Text: "a"}, api.Node{Kind: api.NYield}
	with := func(kind int, kids ...api.Node) api.Node { return api.Node{Kind: kind, Kids: kids} }
	program := func(s api.Node) api.Node {
		method := api.Node{Kind: api.NMethod, Text: "f", Kids: []api.Node{{Kind: api.NType, Text: "void"}, with(api.NBlock, s)}}
		return with(api.NProgram, api.Node{Kind: api.NClass, Text: "A", Kids: []api.Node{{Kind: api.NType}, method}})
	}
	open, whole := with(api.NIf, a, yield), with(api.NIf, a, yield, yield)
	for i, c := range []struct {
		n  api.Node
		is bool
	}{
		{open, true}, {whole, true}, {with(api.NIf, a, open), true}, {with(api.NIf, a, whole), true}, {with(api.NIf, a, open, yield), false}, {with(api.NIf, a, whole, yield), true}, {with(api.NIf, a, yield, open), true},
		{with(api.NIf, a, with(api.NWhile, a, open), yield), false}, {with(api.NIf, a, with(api.NWhile, a, whole), yield), true}, {with(api.NIf, a, with(api.NWhile, a, yield), yield), true},
		{with(api.NIf, a, with(api.NIf, a, yield, open), yield), false}, {with(api.NIf, a, with(api.NIf, a, open, yield), yield), false}, {with(api.NIf, a, with(api.NBlock, open), yield), true},
		{with(api.NIf, a, with(api.NIf, a, yield, with(api.NWhile, a, with(api.NWhile, a, open))), yield), false},
		{with(api.NWhile, a, with(api.NIf, a, open, yield)), false}, {with(api.NIf, a, yield, with(api.NIf, a, open, open)), false}, {with(api.NIf, a, yield, with(api.NIf, a, whole, open)), true},
	} {
		if is := holdsPrint(t, program(c.n)); is != c.is {
			t.Errorf("P19.3: row %d: %t", i, is)
		}
	}
}
