package parse

import (
	"slices"
	"strings"
	"testing"

	"loom/api"
)

// upTo: s as often as there is room for it ahead of back, behind front; then blanks.
func upTo(front, s, back string) (string, int) {
	n := (api.MaxSource - len(front) - len(back)) / len(s)
	src := front + strings.Repeat(s, n) + back
	return src + strings.Repeat(" ", api.MaxSource-len(src)), n
}

func TestAsLongAsASource(t *testing.T) {
	for _, c := range []struct {
		front, s, back string
		each           int // nodes of each s
	}{
		{"a", "+a", "", 2}, {"1", "-1", "", 2}, {"a", "*a", "", 2}, {"a", "%1", "", 2}, {"a", ".b", "", 1}, {"a", "[1]", "", 2}, {"a", ".f()", "", 1}, {"a", ".f(b)", "", 2}, {"a", " as A", "", 1}, {"a", " is A", "", 1}, {"a.f(1", ",1", ")", 1}, {"a", "+(a)", "", 2}, {"a", "+-a", "", 3}, {"a", "*b.c", "", 3},
		{"", "class A{}", "", 2}, {"class A{", "A a;", "}", 2}, {"class A{", "void f(){}", "}", 3}, {"class A{int f(int a", ",int a", "){}}", 2}, {ahead, "a;", "}}", 2}, {ahead, "{}", "}}", 1}, {ahead, "yield;", "}}", 1}, {ahead, "if(a)b;", "}}", 4}, {ahead, "a=b;", "}}", 3}, {ahead + "out(1", "+1", ");}}", 2},
	} {
		src, many := upTo(c.front, c.s, c.back)
		call, few := Expr, c.front+c.back
		if strings.HasPrefix(src, "class") {
			call = Program
		}
		one, _, err := call(few)
		if err != api.OK {
			t.Fatalf("%q: %v", few, err)
		}
		n, at, err := call(src)
		if err != api.OK || at != 0 || Count(n) != Count(one)+many*c.each {
			t.Fatalf("P19.3: %q: %v at %d, %d nodes, not %d", short(src), err, at, Count(n), Count(one)+many*c.each)
		}
		again, _, _ := call(src)
		if !Same(n, again) || Print(n) != show(n) {
			t.Errorf("P19.3: %q: not the same, or not printed", short(src))
		}
		if got := answer(call(src + " ")); got != "32 at 0" {
			t.Errorf("P19.1: %q, one byte longer: %s", short(src), short(got))
		}
		if got := answer(call(strings.TrimRight(src, " ")[:7000] + "!")); got != "180 at 7000" && got != "180 at 6999" {
			t.Errorf("P19.1: %q with no token at its end: %s", short(src), short(got))
		}
	}
}

// chain: a node of this kind within another one, so deep; its child of that number is the next one.
func chain(deep int, link api.Node, at int, last api.Node) api.Node {
	n := last
	for range deep {
		up := link
		up.Kids = slices.Clone(link.Kids)
		up.Kids[at] = n
		n = up
	}
	return n
}

func inProgram(s api.Node) api.Node {
	method := api.Node{Kind: api.NMethod, Text: "f", Kids: []api.Node{{Kind: api.NType, Text: "void"}, {Kind: api.NBlock, Kids: []api.Node{s}}}}
	return api.Node{Kind: api.NProgram, Kids: []api.Node{{Kind: api.NClass, Text: "A", Kids: []api.Node{{Kind: api.NType}, method}}}}
}

// Trees of as many parts within one another as may be.
func TestTreesAsDeepAsMayBe(t *testing.T) {
	const deep = 1 << 16
	a, yield, none := api.Node{Kind: api.NName, Text: "a"}, api.Node{Kind: api.NYield}, api.Node{}
	for _, c := range []struct {
		n    api.Node
		each string // printed of each; empty: no tree
	}{
		{chain(deep, api.Node{Kind: api.NUn, Text: "-", Kids: []api.Node{none}}, 0, a), "( -"}, {chain(deep, api.Node{Kind: api.NSpawn, Kids: []api.Node{none}}, 0, a), "( spawn"},
		{chain(deep, api.Node{Kind: api.NBin, Text: "+", Kids: []api.Node{none, a}}, 0, a), "+ a )"}, {chain(deep, api.Node{Kind: api.NBin, Text: "+", Kids: []api.Node{a, none}}, 1, a), "( a +"},
		{chain(deep, api.Node{Kind: api.NGet, Text: "b", Kids: []api.Node{none}}, 0, a), ". b"}, {chain(deep, api.Node{Kind: api.NCall, Text: "b", Kids: []api.Node{none, a}}, 0, a), ". b ( a )"}, {chain(deep, api.Node{Kind: api.NCall, Text: "b", Kids: []api.Node{a, none}}, 1, a), "a . b ("}, {chain(deep, api.Node{Kind: api.NIndex, Kids: []api.Node{a, none}}, 1, a), "a ["}, {chain(deep, api.Node{Kind: api.NCast, Text: "B", Kids: []api.Node{none}}, 0, a), "as B )"},
		{chain(deep, api.Node{Kind: api.NUn, Text: "-", Kids: []api.Node{none}}, 0, yield), ""}, {chain(deep, api.Node{Kind: api.NBin, Text: "?", Kids: []api.Node{none, a}}, 0, a), ""}, {chain(deep, api.Node{Kind: -5, Kids: []api.Node{none}}, 0, a), ""},
		{inProgram(chain(deep, api.Node{Kind: api.NBlock, Kids: []api.Node{none}}, 0, yield)), "{"}, {inProgram(chain(deep, api.Node{Kind: api.NIf, Kids: []api.Node{a, none}}, 1, yield)), "if ( a )"}, {inProgram(chain(deep, api.Node{Kind: api.NIf, Kids: []api.Node{a, none, yield}}, 1, yield)), "if ( a )"}, {inProgram(chain(deep, api.Node{Kind: api.NIf, Kids: []api.Node{a, yield, none}}, 2, yield)), "if ( a ) yield ; else"}, {inProgram(chain(deep, api.Node{Kind: api.NWhile, Kids: []api.Node{a, none}}, 1, yield)), "while ( a )"},
		{inProgram(api.Node{Kind: api.NIf, Kids: []api.Node{a, chain(deep, api.Node{Kind: api.NWhile, Kids: []api.Node{a, none}}, 1, api.Node{Kind: api.NIf, Kids: []api.Node{a, yield}}), yield}}), ""},
	} {
		if !Same(c.n, c.n) || Count(c.n) <= deep || Same(c.n, a) {
			t.Fatalf("P19.3: a tree %d deep", Count(c.n))
		}
		s := Print(c.n)
		if c.each == "" && s != "" || c.each != "" && strings.Count(s, c.each) < deep {
			t.Errorf("P19.3: Print of %d nodes of %q: %q", deep, c.each, short(s))
		}
	}
}

func TestTreesWithManyChildren(t *testing.T) {
	const many = 300000
	a := api.Node{Kind: api.NName, Text: "a"}
	n := api.Node{Kind: api.NCall, Text: "f", Kids: slices.Repeat([]api.Node{a}, many)}
	if Count(n) != many+1 || !Same(n, n) || Print(n) != "a . f ( a"+strings.Repeat(" , a", many-2)+" )" {
		t.Error("P19.3: a call with many arguments")
	}
	n.Kids[many-1] = api.Node{Kind: api.NYield}
	if Print(n) != "" {
		t.Error("P19.3: a call of which the last argument is none")
	}
}
