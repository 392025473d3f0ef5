package gc

import (
	"math/rand"
	"slices"
	"testing"

	"loom/api"
	"loom/heap"
)

// reaches: what Mark tells, by a list that is written out, and by the closure.
func reaches(t testing.TB, h *heap.Heap, roots []int, to map[int][]int, want ...int) {
	t.Helper()
	if got := marked(t, h, roots, to); !slices.Equal(got, want) {
		t.Fatalf("P12.1: roots %v, references %v: %v, not %v", roots, to, got, want)
	}
}

func TestMarkOfTheExample(t *testing.T) {
	h, _ := must(t, 9, 1, 1, 1)
	to := map[int][]int{1: {7}}
	reaches(t, h, []int{1}, to, 1, 7)
	reaches(t, h, []int{4}, to, 4)
	reaches(t, h, []int{7}, to, 7)
	reaches(t, h, []int{4, 1}, to, 1, 4, 7)
}

func TestMarkWithoutRoots(t *testing.T) {
	h, _ := must(t, 9, 1, 1, 1)
	to := map[int][]int{1: {4}, 4: {7}, 7: {1, 7}, 0: {1, 4, 7}}
	reaches(t, h, nil, to)
	reaches(t, h, []int{}, to)
	reaches(t, h, make([]int, 0, 9), to)
	reaches(t, h, wrongs(), to)
}

func TestMarkInArenasWithoutObjects(t *testing.T) {
	emptied, at := must(t, 12, 2, 1)
	for _, here := range at {
		emptied.Release(here)
	}
	roots := append(wrongs(), 1, 2, 3, 4, 5, 12, 13)
	to := map[int][]int{0: {1}, 1: {2, 1}, 2: {1}, -1: {1}}
	for _, h := range []*heap.Heap{new(heap.Heap), heap.New(-1), heap.New(0), heap.New(1), heap.New(2), heap.New(api.MaxWords), emptied} {
		reaches(t, h, roots, to)
		reaches(t, h, nil, to)
	}
}

// All that is no object's address: within one, in a free block, its beginning too, at the end and beyond; as a root, and as a reference.
func TestMarkOfWhatIsNoAddress(t *testing.T) {
	h, at := must(t, 30, 3, 2, 4, 1)
	h.Release(at[1])
	first, third, last := at[0], at[2], at[3]
	// Words that look like headers, and like addresses, are none: only refs tells what is referred to.
	for i := range 3 {
		h.Put(first, i, uint64(3<<1|1))
		h.Put(third, i, uint64(last))
	}
	wrong := wrongs()
	for here := -3; here <= h.Size()+3; here++ {
		if here != first && here != third && here != last {
			wrong = append(wrong, here)
		}
	}
	for _, w := range wrong {
		to := map[int][]int{first: {w}, third: {w, last, w}, w: {third, first}}
		reaches(t, h, []int{w}, to)
		reaches(t, h, []int{first}, to, first)
		reaches(t, h, []int{w, third, w}, to, third, last)
		reaches(t, h, []int{last, w}, to, last)
	}
	reaches(t, h, wrong, map[int][]int{first: wrong})
	reaches(t, h, append(slices.Clone(wrong), first), map[int][]int{first: append(slices.Clone(wrong), third), third: wrong}, first, third)
}

func TestMarkOfRootsThatStandTwice(t *testing.T) {
	h, at := must(t, 20, 0, 1, 2)
	one, two, three := at[0], at[1], at[2]
	reaches(t, h, []int{two, two}, nil, two)
	reaches(t, h, []int{three, one, three, one, three}, nil, one, three)
	reaches(t, h, []int{one, one, one}, map[int][]int{one: {two, two, one, two}, two: {one, one}}, one, two)
	reaches(t, h, []int{one, two}, map[int][]int{one: {two}, two: {three, three}}, one, two, three)
}

func TestMarkOfRings(t *testing.T) {
	h, at := must(t, 20, 0, 1, 2, 0)
	a, b, c, d := at[0], at[1], at[2], at[3]
	reaches(t, h, []int{b}, map[int][]int{b: {b}}, b)
	reaches(t, h, []int{b}, map[int][]int{b: {a}, a: {b}}, a, b)
	reaches(t, h, []int{c}, map[int][]int{b: {a}, a: {b}, c: {c}}, c)
	ring := map[int][]int{a: {c}, c: {d}, d: {b}, b: {a}}
	for _, root := range at {
		reaches(t, h, []int{root}, ring, a, b, c, d)
	}
	reaches(t, h, nil, ring)
	reaches(t, h, []int{d}, map[int][]int{a: {b}, b: {c}, c: {a}, d: {c}}, a, b, c, d)
	reaches(t, h, []int{a}, map[int][]int{a: {b}, b: {c}, c: {a}, d: {c}}, a, b, c)
}

// most: an arena with as many objects as one can have.
func most(t testing.TB) (*heap.Heap, []int) {
	t.Helper()
	return must(t, api.MaxWords, make([]int, api.MaxWords/api.Header)...)
}

// chain: one object refers to the next one in a list.
func chain(list []int) map[int][]int {
	to := map[int][]int{}
	for n := range len(list) - 1 {
		to[list[n]] = []int{list[n+1]}
	}
	return to
}

func marksOf(t testing.TB, h *heap.Heap, roots []int, to map[int][]int, want []int) {
	t.Helper()
	g := newGraph(to)
	if got := Mark(h, roots, g.refs); !slices.Equal(got, want) {
		t.Fatalf("P12.1: %d, not %d, are reached from %v", len(got), len(want), roots)
	}
	askedOnce(t, g, want)
}

func TestMarkOfLongChains(t *testing.T) {
	h, at := most(t)
	mixed := slices.Clone(at)
	rand.New(rand.NewSource(12)).Shuffle(len(mixed), func(a, b int) { mixed[a], mixed[b] = mixed[b], mixed[a] })
	back := slices.Clone(at)
	slices.Reverse(back)
	for _, order := range [][]int{at, back, mixed} {
		to := chain(order)
		for _, from := range []int{0, 1, 2, 500, len(at) - 2, len(at) - 1} {
			want := slices.Clone(order[from:])
			slices.Sort(want)
			marksOf(t, h, []int{order[from]}, to, want)
		}
		to[order[len(order)-1]] = []int{order[0]}
		marksOf(t, h, []int{order[77]}, to, at)
	}
}

func TestMarkOfTrees(t *testing.T) {
	h, at := most(t)
	to := map[int][]int{}
	for n := range at {
		for _, child := range []int{2*n + 1, 2*n + 2} {
			if child < len(at) {
				to[at[n]] = append(to[at[n]], at[child])
			}
		}
	}
	marksOf(t, h, at[:1], to, at)
	want := []int{at[2], at[5], at[6], at[11], at[12], at[13], at[14]}
	for _, n := range []int{7, 8, 9, 10, 15, 16} {
		marksOf(t, h, at[n:n+1], to, closure(h, at[n:n+1], to))
	}
	if got := closure(h, at[2:3], to); !slices.Equal(got[:7], want) {
		t.Fatalf("the tree isn't one: %v", got[:7])
	}
	marksOf(t, h, at[2:3], to, closure(h, at[2:3], to))
}

// All refer to all, as often as refs may tell: the stack never holds one twice.
func TestMarkOfWhatIsReachedAlready(t *testing.T) {
	h, at := most(t)
	twice := append(slices.Clone(at), at...)
	to := map[int][]int{}
	for _, from := range at {
		to[from] = twice
	}
	marksOf(t, h, at[5:6], to, at)
	marksOf(t, h, twice, to, at)
	// Two ways lead to the last one: a short one that is seen first, and a long one.
	for _, list := range [][]int{{at[1], at[9]}, {at[9], at[1]}} {
		marksOf(t, h, at[:1], map[int][]int{at[0]: list, at[1]: {at[2]}, at[2]: {at[9]}}, []int{at[0], at[1], at[2], at[9]})
	}
}

// Whatever the order of roots and references: the same rising list.
func TestMarkTellsRisingAddresses(t *testing.T) {
	h, at := must(t, 60, 3, 0, 1, 4, 2, 0, 1)
	r := rand.New(rand.NewSource(3))
	mixed := func(list ...int) []int {
		r.Shuffle(len(list), func(a, b int) { list[a], list[b] = list[b], list[a] })
		return list
	}
	for range 300 {
		to := map[int][]int{
			at[5]: mixed(at[0], at[3], -1, at[5]),
			at[3]: mixed(at[5], at[1], at[0], at[0]),
			at[6]: mixed(at[1], 0, 999, at[3]),
			at[1]: mixed(at[6], at[1]),
			at[2]: mixed(at[4], at[6]),
		}
		reaches(t, h, mixed(at[5], 2, at[6], at[5]), to, at[0], at[1], at[3], at[5], at[6])
	}
}

// What an object refers to is asked once also where much leads to it, and also of one that refers to nothing.
func TestEachIsAskedOnce(t *testing.T) {
	h, at := must(t, 20, 0, 0, 0, 0)
	g := newGraph(map[int][]int{at[0]: {at[2], at[1], at[2]}, at[1]: {at[2], at[0]}, at[3]: {at[0]}})
	Mark(h, []int{at[0], at[1], at[0]}, g.refs)
	if len(g.asked) != 3 || g.asked[at[0]] != 1 || g.asked[at[1]] != 1 || g.asked[at[2]] != 1 {
		t.Errorf("P12.1: asked of %v", g.asked)
	}
	g = newGraph(nil)
	Mark(h, []int{at[3], 0, at[3] + 1, at[3]}, g.refs)
	if len(g.asked) != 1 || g.asked[at[3]] != 1 {
		t.Errorf("P12.1: asked of %v", g.asked)
	}
}

// References that refs finds in the arena itself, while Mark goes on.
func TestRefsMayAskTheArena(t *testing.T) {
	h, at := must(t, 40, 2, 2, 2, 2, 2)
	for n, from := range at {
		h.Put(from, 0, uint64(at[(n+2)%len(at)]))
		h.Put(from, 1, 0)
	}
	refs := func(from int) []int {
		var list []int
		words, _ := h.Words(from)
		for i := range words {
			v, _ := h.Get(from, i)
			list = append(list, int(v))
		}
		// A whole other walk within this one.
		Mark(h, at, func(int) []int { return at })
		return list
	}
	if got := Mark(h, at[1:2], refs); !slices.Equal(got, at) {
		t.Errorf("P12.1: %v, not %v", got, at)
	}
	h.Put(at[3], 0, 0)
	if got := Mark(h, at[1:2], refs); !slices.Equal(got, []int{at[1], at[3]}) {
		t.Errorf("P12.1: %v", got)
	}
}
