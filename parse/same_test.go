package parse

import (
	"math"
	"slices"
	"testing"

	"loom/api"
)

// wildNumbers: no two with the same bits.
func wildNumbers() []complex128 {
	other := math.Float64frombits(math.Float64bits(math.NaN()) ^ 1)
	parts := []float64{0, math.Copysign(0, -1), 1, -1, 2.5, 999999999999999, 1e15, 1e18, 1e19, 1e300, 5e-324, math.Inf(1), math.Inf(-1), math.NaN(), other, 1 << 53, 1<<53 + 2, 999999999999998.5}
	var all []complex128
	for _, re := range parts {
		for _, im := range parts {
			all = append(all, complex(re, im))
		}
	}
	return all
}

func TestSame(t *testing.T) {
	for _, n := range someTrees(t) {
		if !Same(n, n) || !Same(n, moved(n, 5)) || !Same(moved(n, 5), n) {
			t.Errorf("P19.3: not the same as itself: %s", say(n))
		}
		changes(n, func(m api.Node) {
			want := say(placeless(m)) == say(placeless(n))
			if Same(n, m) != want || Same(m, n) != want {
				t.Fatalf("P19.3: Same(%s, %s): %t", say(n), say(m), !want)
			}
		})
	}
	for _, a := range wildNumbers() {
		for _, b := range wildNumbers() {
			one, other := api.Node{Kind: api.NCplx, Cplx: a}, api.Node{Kind: api.NCplx, Cplx: b}
			if want := bits(a) == bits(b); Same(one, other) != want || Same(api.Node{Kids: []api.Node{one}}, api.Node{Kids: []api.Node{other}}) != want {
				t.Fatalf("P19.3: Same of %v and %v: %t", a, b, !want)
			}
		}
	}
	if !Same(api.Node{}, api.Node{Kids: []api.Node{}}) || !Same(api.Node{}, api.Node{At: 1 << 62}) {
		t.Error("P19.3: what isn't there differs")
	}
}

// Same looks at all children, at each depth, in their order.
func TestSameByOneLeaf(t *testing.T) {
	leaves := func(n int) []api.Node {
		var l []api.Node
		for i := range n {
			l = append(l, api.Node{Kind: 99, Int: int64(i)})
		}
		return l
	}
	for size := range 20 {
		one := api.Node{Kids: leaves(size)}
		for other := range 20 {
			if Same(one, api.Node{Kids: leaves(other)}) != (size == other) {
				t.Fatalf("P19.3: %d and %d children", size, other)
			}
		}
		for i := range size {
			l := leaves(size)
			l[i].Text = "x"
			if Same(one, api.Node{Kids: l}) {
				t.Fatalf("P19.3: child %d of %d", i, size)
			}
			l = leaves(size)
			if slices.Reverse(l); Same(one, api.Node{Kids: l}) != (size < 2) {
				t.Fatalf("P19.3: %d children the other way round", size)
			}
		}
	}
}

func TestCount(t *testing.T) {
	for src, want := range map[string]int{"a": 1, "a+1": 3, "((a))": 1, "a.f(1,2)": 4, "new ints[5]": 2, "-~a": 3, "1+2*3": 5, "a as B": 2} {
		n, _, _ := Expr(src)
		if got := Count(n); got != want {
			t.Errorf("P19.3: Count of %q: %d, not %d", src, got, want)
		}
	}
	for src, want := range map[string]int{"": 1, "class A { }": 3, "class A extends B { int x; void f(int a) { return; } }": 11} {
		n, _, _ := Program(src)
		if got := Count(n); got != want {
			t.Errorf("P19.3: Count of %q: %d, not %d", src, got, want)
		}
	}
	none := api.Node{}
	for n, want := range map[*api.Node]int{&none: 1, {Kids: []api.Node{none, none}}: 3, {Kind: -5, Kids: []api.Node{{Kids: []api.Node{none}}, none}}: 4, {Kids: slices.Repeat([]api.Node{none}, 100000)}: 100001} {
		if got := Count(*n); got != want {
			t.Errorf("P19.3: Count of %s: %d, not %d", short(say(*n)), got, want)
		}
	}
}
