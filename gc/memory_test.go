package gc

import (
	"fmt"
	"slices"
	"testing"

	"loom/heap"
)

// roomy: a list with spare room behind it, filled; and all of it as it was.
func roomy(list ...int) (part, all, was []int) {
	all = append(slices.Clone(list), 61, 62, 63, 64, 65, 66, 67, 68, 69, 70, 71, 72)
	return all[:len(list)], all, slices.Clone(all)
}

// spoil: all of a list, its spare room too, and what is put behind it.
func spoil(list []int, v int) {
	_ = append(list, v, v, v)
	list = list[:cap(list)]
	for n := range list {
		list[n] = v
	}
}

func TestWhatIsHandedInStays(t *testing.T) {
	for _, call := range []func(*heap.Heap, []int, func(int) []int){
		func(h *heap.Heap, roots []int, refs func(int) []int) { Mark(h, roots, refs) },
		func(h *heap.Heap, roots []int, refs func(int) []int) { Collect(h, roots, refs) },
	} {
		h, at := must(t, 30, 0, 1, 2, 0, 1, 2)
		roots, allRoots, rootsWere := roomy(at[5], 7, at[1], at[5])
		one, allOne, oneWas := roomy(at[3], at[1], at[3], -1)
		other, allOther, otherWas := roomy(at[0], at[5])
		to := map[int][]int{at[5]: one, at[1]: other, at[3]: one, at[0]: roots}
		call(h, roots, newGraph(to).refs)
		if !slices.Equal(allRoots, rootsWere) || !slices.Equal(allOne, oneWas) || !slices.Equal(allOther, otherWas) {
			t.Errorf("what was handed in, or told by refs, was changed: %v, %v, %v", allRoots, allOne, allOther)
		}
	}
}

// refs may tell all it tells in one list that it fills anew: an earlier answer isn't looked at any more.
func TestAnswersOfRefsAreNotKept(t *testing.T) {
	h, at := must(t, 30, 0, 1, 2, 0, 1, 2)
	to := map[int][]int{at[0]: {at[3], at[1]}, at[3]: {at[4]}, at[4]: {at[0]}, at[1]: {at[4], at[1]}}
	buffer := make([]int, 0, 8)
	refs := func(from int) []int {
		spoil(buffer, at[5])
		buffer = append(buffer[:0], to[from]...)
		return buffer
	}
	want := []int{at[0], at[1], at[3], at[4]}
	got := Mark(h, at[:1], refs)
	spoil(buffer, at[5])
	if !slices.Equal(got, want) {
		t.Errorf("P12.1: %v, not %v", got, want)
	}
	if count := Collect(h, at[:1], refs); count != 2 || !slices.Equal(h.All(), want) {
		t.Errorf("P12.2: %d: %v", count, h.All())
	}
}

func TestAnswersAreNewMemory(t *testing.T) {
	h, at := must(t, 30, 0, 1, 2, 0, 1, 2)
	before := text(h)
	g := newGraph(map[int][]int{at[5]: {at[2]}, at[2]: at})
	roots := []int{at[5], at[2]}
	first := Mark(h, roots, g.refs)
	for range 3 {
		spoil(Mark(h, roots, g.refs), 77)
		spoil(Mark(h, at, g.refs), 78)
		spoil(Mark(h, nil, g.refs), 79)
		if !slices.Equal(first, at) || text(h) != before || !slices.Equal(roots, []int{at[5], at[2]}) {
			t.Fatalf("an earlier answer, the arena, or what was handed in was touched: %v, %s, %v", first, text(h), roots)
		}
	}
	if fmt.Sprint(g.to[at[2]]) != fmt.Sprint(at) {
		t.Errorf("what refs tells was touched: %v", g.to)
	}
	// What becomes of the roots, and of the arena, is nothing to an answer.
	spoil(roots, 1)
	Collect(h, nil, g.refs)
	h.Alloc(1, 7)
	if !slices.Equal(first, at) {
		t.Errorf("an earlier answer was changed: %v", first)
	}
}

// One list as roots, as what refs tells of each, and as what the caller goes on with.
func TestOneListForAll(t *testing.T) {
	h, at := must(t, 30, 0, 1, 2)
	list := []int{at[2], at[0]}
	refs := func(int) []int { return list }
	got := Mark(h, list, refs)
	if !slices.Equal(got, []int{at[0], at[2]}) || !slices.Equal(list, []int{at[2], at[0]}) {
		t.Errorf("P12.1: %v, %v", got, list)
	}
	spoil(got, at[1])
	if count := Collect(h, list, refs); count != 1 || !slices.Equal(h.All(), []int{at[0], at[2]}) {
		t.Errorf("P12.2: %d, %v", count, h.All())
	}
}

// An arena that is collected touches no other one, also while that one is gone through.
func TestTwoArenas(t *testing.T) {
	one, at := must(t, 30, 0, 1, 2, 3)
	other, _ := must(t, 30, 0, 1, 2, 3)
	before := text(other)
	refs := func(from int) []int {
		Collect(one, at[:1], newGraph(nil).refs)
		return []int{at[3]}
	}
	if got := Mark(other, at[1:2], refs); !slices.Equal(got, []int{at[1], at[3]}) || text(other) != before || !slices.Equal(one.All(), at[:1]) {
		t.Errorf("P12.1: %v: %s, %s", got, text(other), text(one))
	}
	if count := Collect(other, at[1:2], refs); count != 2 || !slices.Equal(one.All(), at[:1]) {
		t.Errorf("P12.2: %d: %s", count, text(one))
	}
}

// Many may mark one arena at once, each with an arena of its own beside it.
func TestTellsTheSameToManyAtOnce(t *testing.T) {
	h, at := must(t, 30, 0, 1, 2, 3)
	done := make(chan bool)
	for n := range 8 {
		own, _ := must(t, 30, 0, 1, 2, 3)
		go func() {
			fine := true
			for range 50 {
				got := Mark(h, at[1:2], newGraph(map[int][]int{at[1]: {at[3]}}).refs)
				fine = fine && slices.Equal(got, []int{at[1], at[3]}) && Fits(h, 12) && !Fits(h, 15)
				spoil(got, n)
			}
			fine = fine && Collect(own, []int{at[n%4]}, newGraph(nil).refs) == 3 && slices.Equal(own.All(), []int{at[n%4]})
			done <- fine
		}()
	}
	for range 8 {
		if !<-done {
			t.Errorf("P12.1: something else was told")
		}
	}
}
