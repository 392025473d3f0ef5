package gc

import (
	"fmt"
	"slices"
	"testing"

	"loom/api"
	"loom/heap"
)

func TestCollectOfTheExample(t *testing.T) {
	h, _ := must(t, 9, 1, 1, 1)
	g := newGraph(map[int][]int{1: {7}})
	if got := Collect(h, []int{1}, g.refs); got != 1 {
		t.Errorf("P12.2: %d", got)
	}
	if got, want := text(h), "9 [{4 3}] 1:10[ 1000] 7:12[ 3000]"; got != want {
		t.Errorf("P12.3: %s, not %s", got, want)
	}
}

// leaves: how many Collect releases, and all that is left, written out.
func leaves(t testing.TB, h *heap.Heap, roots []int, to map[int][]int, count int, want string) {
	t.Helper()
	before := text(h)
	if got := Collect(h, roots, newGraph(to).refs); got != count || text(h) != want {
		t.Fatalf("P12.2: roots %v, references %v: %d released, not %d: %s, not %s: of %s", roots, to, got, count, text(h), want, before)
	}
}

func TestCollectWithoutRoots(t *testing.T) {
	to := map[int][]int{1: {4}, 4: {7}, 7: {1}}
	for _, roots := range [][]int{nil, {}, wrongs(), {2, 3, 5, 6, 8, 9, 10}} {
		h, _ := must(t, 9, 1, 1, 1)
		leaves(t, h, roots, to, 3, "9 [{1 9}]")
		leaves(t, h, roots, to, 0, "9 [{1 9}]")
		// What is gone is reached by nothing any more.
		leaves(t, h, []int{1, 4, 7}, to, 0, "9 [{1 9}]")
	}
}

func TestCollectOfAll(t *testing.T) {
	h, at := must(t, 9, 1, 1, 1)
	whole := text(h)
	leaves(t, h, at, nil, 0, whole)
	leaves(t, h, []int{7, 4, 1, 4}, nil, 0, whole)
	leaves(t, h, []int{4}, map[int][]int{4: {1, 7}}, 0, whole)
}

func TestCollectOfEach(t *testing.T) {
	for _, c := range []struct {
		roots []int
		to    map[int][]int
		count int
		want  string
	}{
		{[]int{1}, nil, 3, "14 [{4 11}] 1:10[ 1000]"},
		{[]int{4}, nil, 3, "14 [{1 3} {6 9}] 4:11[]"},
		{[]int{6}, nil, 3, "14 [{1 5} {10 5}] 6:12[ 3000 3001]"},
		{[]int{10}, nil, 3, "14 [{1 9} {13 2}] 10:13[ 4000]"},
		{[]int{10, 1, 10}, nil, 2, "14 [{4 6} {13 2}] 1:10[ 1000] 10:13[ 4000]"},
		{[]int{6}, map[int][]int{6: {6}, 4: {6}}, 3, "14 [{1 5} {10 5}] 6:12[ 3000 3001]"},
		{[]int{6}, map[int][]int{6: {4}, 4: {6}, 1: {4}}, 2, "14 [{1 3} {10 5}] 4:11[] 6:12[ 3000 3001]"},
		{[]int{1}, map[int][]int{4: {6}, 6: {10}, 10: {4, 1}}, 3, "14 [{4 11}] 1:10[ 1000]"},
		{[]int{10}, map[int][]int{10: {0, -1, 2, 13, 14, 15, 1}}, 2, "14 [{4 6} {13 2}] 1:10[ 1000] 10:13[ 4000]"},
		{[]int{2, 5, 13, 99}, map[int][]int{2: {1}, 13: {4}, 0: {6}}, 4, "14 [{1 14}]"},
	} {
		h, _ := must(t, 14, 1, 0, 2, 1)
		leaves(t, h, c.roots, c.to, c.count, c.want)
		leaves(t, h, c.roots, c.to, 0, c.want)
		h, _ = must(t, 14, 1, 0, 2, 1)
		collected(t, h, c.roots, c.to)
	}
}

func TestCollectInArenasWithoutObjects(t *testing.T) {
	for _, h := range []*heap.Heap{new(heap.Heap), heap.New(-5), heap.New(0), heap.New(1), heap.New(2), heap.New(api.MaxWords)} {
		collected(t, h, []int{1, 2, 0, -1}, map[int][]int{1: {2}})
		collected(t, h, nil, nil)
	}
}

// Every other one goes: as many holes as there can be; then what was between them.
func TestCollectOfAsManyAsThereAre(t *testing.T) {
	h, at := most(t)
	var kept []int
	for n := 1; n < len(at); n += 2 {
		kept = append(kept, at[n])
	}
	if got := Collect(h, kept[:1], newGraph(chain(kept)).refs); got != len(at)/2 || !slices.Equal(h.All(), kept) {
		t.Fatalf("P12.2: %d of %d", got, len(at))
	}
	if free := h.Free(); len(free) != len(at)/2 || !slices.Equal(free, holes(h, kept)) {
		t.Fatalf("P12.2: %d blocks are free", len(free))
	}
	if got := Collect(h, nil, newGraph(nil).refs); got != len(kept) || text(h) != fmt.Sprintf("%d [{1 %d}]", api.MaxWords, api.MaxWords) {
		t.Fatalf("P12.2: %d of %d: %s", got, len(kept), text(h))
	}
	if at, err := h.Alloc(1, api.MaxWords-api.Header); at != 1 || err != api.OK {
		t.Fatalf("P12.2: %d, %d", at, err)
	}
}

// What stays has all it had, whatever its words are, also those that look like headers or addresses; it can be written and read, and asked for anew.
func TestWhatIsReachedStays(t *testing.T) {
	h, at := must(t, 60, 3, 4, 2, 0, 5, 1)
	values := []uint64{0, 1, 2, 3, 5, 7, 11, uint64(at[4]), 1 << 63, 1<<64 - 1, 4<<1 | 1, 60 << 1}
	n := 0
	for _, here := range at {
		words, _ := h.Words(here)
		for i := range words {
			h.Put(here, i, values[n%len(values)])
			n++
		}
	}
	had := []string{object(h, at[1]), object(h, at[3]), object(h, at[4])}
	collected(t, h, []int{at[4]}, map[int][]int{at[4]: {at[3], at[1]}})
	for round, here := range []int{at[1], at[3], at[4]} {
		if got := object(h, here); got != had[round] {
			t.Errorf("P12.3: %s, not %s", got, had[round])
		}
	}
	// New objects in the holes touch nothing of it.
	for h.Size() > 0 {
		here, err := h.Alloc(99, 0)
		if err != api.OK {
			break
		}
		if slices.Contains([]int{at[1], at[3], at[4]}, here) {
			t.Fatalf("P12.3: a new object at %d", here)
		}
	}
	for round, here := range []int{at[1], at[3], at[4]} {
		if got := object(h, here); got != had[round] {
			t.Errorf("P12.3: %s, not %s", got, had[round])
		}
	}
	collected(t, h, []int{at[1]}, nil)
	if got := object(h, at[1]); got != had[0] {
		t.Errorf("P12.3: %s, not %s", got, had[0])
	}
}

// A new object at an old one's address is one as any other: nothing is kept of earlier collections.
func TestCollectKeepsNothingInMind(t *testing.T) {
	h, at := must(t, 9, 1, 1, 1)
	leaves(t, h, []int{at[1]}, nil, 2, "9 [{1 3} {7 3}] 4:11[ 2000]")
	h.Alloc(50, 1)
	h.Alloc(51, 0)
	leaves(t, h, []int{7}, map[int][]int{7: {1}}, 1, "9 [{4 3} {9 1}] 1:50[ 0] 7:51[]")
	leaves(t, h, []int{4}, map[int][]int{7: {1}}, 2, "9 [{1 9}]")
}
