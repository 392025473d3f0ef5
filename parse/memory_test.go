package parse

import (
	"slices"
	"strings"
	"testing"
	"unsafe"

	"loom/api"
)

const someSource = "class A extends B { volatile int v; B b; int f(int x, ints y) { if (x < 1) out(1 + 2 * 3); else { } try { a.f(x, y)[0] = null as C; } catch (E e) { sync (e) { } } return -3i; } void g() { } } class C { }"

const someExpr = "this.f(-a, new ints[1 + b], c as D)[spawn e.g()] * ((1))"

// lists: all lists of a tree, each of them once, with their spare room.
func lists(n api.Node, each func([]api.Node)) {
	for _, kid := range n.Kids {
		lists(kid, each)
	}
	if n.Kids != nil {
		each(n.Kids[:cap(n.Kids)])
	}
}

// spoil: all lists of a tree, their spare room too.
func spoil(n api.Node) {
	var all [][]api.Node
	lists(n, func(l []api.Node) { all = append(all, l) })
	for _, l := range all {
		for i := range l {
			l[i] = api.Node{Kind: 77, At: 78, Text: "spoilt", Int: 79, Cplx: 80i, Kids: l}
		}
	}
}

func TestATreeIsWhoseItIs(t *testing.T) {
	for src, call := range map[string]func(string) (api.Node, int, api.Errno){someSource: Program, "": Program, "class A{}": Program, someExpr: Expr, "1": Expr, "a.f(1,2,3,4,5)": Expr} {
		one, _, err := call(src)
		if err != api.OK {
			t.Fatal(src)
		}
		was := say(one)
		other, _, _ := call(src)
		spoil(other)
		if say(one) != was {
			t.Fatalf("rule 3: %q: an answer is touched by what is done with another one", src)
		}
		spoil(one)
		if again, _, _ := call(src); say(again) != was {
			t.Fatalf("rule 3: %q: an answer is touched by what is done with an earlier one", src)
		}
	}
}

func TestNoTwoListsShareMemory(t *testing.T) {
	for src, call := range map[string]func(string) (api.Node, int, api.Errno){someSource: Program, someExpr: Expr} {
		n, _, _ := call(src)
		seen := map[*api.Node]bool{}
		lists(n, func(l []api.Node) {
			for i := range l {
				if seen[&l[i]] {
					t.Fatalf("rule 3: %q: two lists share a node", src)
				}
				seen[&l[i]] = true
			}
		})
	}
}

// A source, and a tree's texts, that lie in bytes that change: only what was copied out of them stays.
func TestNothingHandedInIsKept(t *testing.T) {
	for src, call := range map[string]func(string) (api.Node, int, api.Errno){someSource: Program, someExpr: Expr} {
		want, _, _ := call(src)
		b := []byte(src)
		n, _, _ := call(unsafe.String(&b[0], len(b)))
		if string(b) != src {
			t.Fatalf("rule 3: the source was changed: %q", b)
		}
		for i := range b {
			b[i] = '#'
		}
		if say(n) != say(want) {
			t.Fatalf("rule 3: the source is kept: %s", say(n))
		}
	}
	for _, n := range []api.Node{{Kind: api.NName}, {Kind: api.NNew}, {Kind: api.NGet, Kids: []api.Node{{Kind: api.NThis}}}} {
		b := []byte("text")
		n.Text = unsafe.String(&b[0], len(b))
		s := Print(n)
		was := strings.Clone(s)
		copy(b, "####")
		if s != was || !strings.Contains(s, "text") {
			t.Fatalf("rule 3: a text is kept: %q", s)
		}
	}
}

func TestTreesHandedInAreNotChanged(t *testing.T) {
	for _, n := range someTrees(t) {
		var all, were [][]api.Node
		lists(n, func(l []api.Node) {
			for i := range l {
				// The spare room is whose the list is.
				if l[i].Kind == 0 {
					l[i] = api.Node{Kind: 77, Text: "spare"}
				}
			}
			all, were = append(all, l), append(were, slices.Clone(l))
		})
		told := say(n)
		if Print(n) != show(n) || !Same(n, n) || Count(n) < 1 {
			t.Fatalf("P19.3: the spare room of %s is looked at", told)
		}
		for i := range all {
			for k := range all[i] {
				if say(all[i][k]) != say(were[i][k]) {
					t.Fatalf("rule 3: %s was changed", told)
				}
			}
		}
	}
}
