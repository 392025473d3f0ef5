package gc

import (
	"fmt"
	"math"
	"math/rand"
	"slices"
	"testing"

	"loom/api"
	"loom/heap"
)

// graph: what each object refers to, and how often each address was asked for.
type graph struct {
	to    map[int][]int
	asked map[int]int
}

func newGraph(to map[int][]int) *graph { return &graph{to: to, asked: map[int]int{}} }

func (g *graph) refs(at int) []int {
	g.asked[at]++
	return g.to[at]
}

// wrongs: what is no object's address in any arena.
func wrongs() []int {
	return []int{0, -1, -2, -7, api.MaxWords + 1, api.MaxWords + 2, 1 << 20, 1 << 32, 1<<32 + 1, 1<<32 + 4, 1 << 62, math.MaxInt32, math.MinInt32, math.MinInt, math.MinInt + 1, math.MinInt + 4, math.MaxInt - 1, math.MaxInt}
}

// must: an arena that takes all these objects, of class 10, 11 .., with words that tell of their object; where each begins.
func must(t testing.TB, size int, words ...int) (*heap.Heap, []int) {
	t.Helper()
	h := heap.New(size)
	var list []int
	for n, count := range words {
		at, err := h.Alloc(10+n, count)
		if err != api.OK {
			t.Fatalf("no room for object %d of %d words: %d", n, count, err)
		}
		for i := range count {
			h.Put(at, i, uint64(1000*(n+1)+i))
		}
		list = append(list, at)
	}
	return h, list
}

// object: all that an arena tells of one object.
func object(h *heap.Heap, at int) string {
	class, err := h.Class(at)
	count, other := h.Words(at)
	if err != api.OK || other != api.OK {
		return fmt.Sprintf("%d: %d, %d", at, err, other)
	}
	s := fmt.Sprintf("%d:%d[", at, class)
	for i := range count {
		v, err := h.Get(at, i)
		s += fmt.Sprint(" ", v)
		if err != api.OK {
			return s + fmt.Sprint(": ", err)
		}
	}
	return s + "]"
}

// text: all that an arena tells.
func text(h *heap.Heap) string {
	s := fmt.Sprint(h.Size(), append([]api.Block{}, h.Free()...))
	for _, at := range h.All() {
		s += " " + object(h, at)
	}
	return s
}

// closure: what is reached, found by going over all objects again and again until nothing new comes: no stack, no order.
func closure(h *heap.Heap, roots []int, to map[int][]int) []int {
	got := map[int]bool{}
	for grown := true; grown; {
		grown = false
		for _, at := range h.All() {
			leads := slices.Contains(roots, at)
			for from := range got {
				leads = leads || slices.Contains(to[from], at)
			}
			grown = grown || leads && !got[at]
			if leads {
				got[at] = true
			}
		}
	}
	var list []int
	for at := range got {
		list = append(list, at)
	}
	slices.Sort(list)
	return list
}

// holes: the free blocks of an arena that has just these objects, word by word.
func holes(h *heap.Heap, objects []int) []api.Block {
	taken := make([]bool, h.Size()+2)
	taken[0] = true
	for _, at := range objects {
		words, _ := h.Words(at)
		for i := range words + api.Header {
			taken[at+i] = true
		}
	}
	var list []api.Block
	for at := 1; at <= h.Size(); at++ {
		if taken[at] {
			continue
		}
		if taken[at-1] {
			list = append(list, api.Block{At: at})
		}
		list[len(list)-1].Words++
	}
	return list
}

// marked: Mark, held against the closure; that it asks just once, and changes nothing.
func marked(t testing.TB, h *heap.Heap, roots []int, to map[int][]int) []int {
	t.Helper()
	before, want, g := text(h), closure(h, roots, to), newGraph(to)
	got := Mark(h, roots, g.refs)
	if !slices.Equal(got, want) {
		t.Fatalf("P12.1: roots %v, references %v: %v, not %v: %s", roots, to, got, want, before)
	}
	askedOnce(t, g, want)
	if after := text(h); after != before {
		t.Fatalf("P12.1: Mark made of %s: %s", before, after)
	}
	return got
}

func askedOnce(t testing.TB, g *graph, want []int) {
	t.Helper()
	for at, times := range g.asked {
		if times != 1 || !slices.Contains(want, at) {
			t.Fatalf("P12.1: asked of %d %d times; reached are %v", at, times, want)
		}
	}
	if len(g.asked) != len(want) {
		t.Fatalf("P12.1: asked of %v; reached are %v", g.asked, want)
	}
}

// collected: Mark, and Collect held against it: how many went, what is left, which blocks are free; and a second one finds nothing.
func collected(t testing.TB, h *heap.Heap, roots []int, to map[int][]int) {
	t.Helper()
	want := marked(t, h, roots, to)
	before, count := text(h), len(h.All())
	free, stays := holes(h, want), map[int]string{}
	for _, at := range want {
		stays[at] = object(h, at)
	}
	g := newGraph(to)
	if got := Collect(h, roots, g.refs); got != count-len(want) {
		t.Fatalf("P12.2: %d released, not %d: roots %v, references %v: %s", got, count-len(want), roots, to, before)
	}
	askedOnce(t, g, want)
	if !slices.Equal(h.All(), want) || !slices.Equal(h.Free(), free) {
		t.Fatalf("P12.2: %v and %v are left, not %v and %v: of %s", h.All(), h.Free(), want, free, before)
	}
	for at, had := range stays {
		if has := object(h, at); has != had {
			t.Fatalf("P12.3: %s, not %s", has, had)
		}
	}
	after := text(h)
	if got := Collect(h, roots, newGraph(to).refs); got != 0 || text(h) != after {
		t.Fatalf("P12.2: a second time: %d, %s, not %s", got, text(h), after)
	}
}

// drawn: an arena of objects of all sizes, some released again.
func drawn(r *rand.Rand) *heap.Heap {
	h := heap.New(r.Intn(120))
	for n := range r.Intn(40) {
		at, err := h.Alloc(r.Intn(5), r.Intn(6))
		if words, _ := h.Words(at); err == api.OK && words > 0 {
			h.Put(at, r.Intn(words), r.Uint64())
		}
		if all := h.All(); n%3 == 2 && len(all) > 0 {
			h.Release(all[r.Intn(len(all))])
		}
	}
	return h
}

// some: addresses, most of them of objects, some of none.
func some(r *rand.Rand, h *heap.Heap, count int) []int {
	all, wrong := h.All(), wrongs()
	var list []int
	for range count {
		switch k := r.Intn(10); {
		case k < 7 && len(all) > 0:
			list = append(list, all[r.Intn(len(all))])
		case k < 9:
			list = append(list, r.Intn(130)-3)
		default:
			list = append(list, wrong[r.Intn(len(wrong))])
		}
	}
	return list
}

func TestDrawnGraphs(t *testing.T) {
	for seed := range 3000 {
		r := rand.New(rand.NewSource(int64(seed)))
		h := drawn(r)
		to := map[int][]int{}
		for range r.Intn(40) {
			// Of what is no object, or isn't one yet, refs could tell something too.
			for _, from := range some(r, h, 1) {
				to[from] = append(to[from], some(r, h, r.Intn(4))...)
			}
		}
		// A collection after another, with fewer and fewer roots, and new objects in the holes between.
		for roots := some(r, h, r.Intn(6)); ; roots = roots[1:] {
			collected(t, h, roots, to)
			if r.Intn(2) == 0 {
				h.Alloc(7, r.Intn(5))
			}
			if len(roots) == 0 {
				break
			}
		}
	}
}

// All graphs there are of three objects, with all roots.
func TestAllSmallGraphs(t *testing.T) {
	for edges := range 1 << 9 {
		for few := range 1 << 3 {
			h, at := must(t, 14, 1, 0, 2)
			to := map[int][]int{}
			for n := range 9 {
				if edges>>n&1 == 1 {
					to[at[n/3]] = append(to[at[n/3]], at[n%3])
				}
			}
			var roots []int
			for n := range 3 {
				if few>>n&1 == 1 {
					roots = append(roots, at[n])
				}
			}
			collected(t, h, roots, to)
		}
	}
}

func FuzzCollect(f *testing.F) {
	f.Add(int64(1), 3)
	f.Add(int64(-9), 0)
	f.Fuzz(func(t *testing.T, seed int64, count int) {
		r := rand.New(rand.NewSource(seed))
		h := drawn(r)
		to := map[int][]int{}
		for range 20 {
			for _, from := range some(r, h, 1) {
				to[from] = append(to[from], some(r, h, 2)...)
			}
		}
		collected(t, h, some(r, h, count&15), to)
	})
}
