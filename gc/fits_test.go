package gc

import (
	"math"
	"math/rand"
	"slices"
	"strconv"
	"testing"

	"loom/api"
	"loom/heap"
)

// arenas: empty, full, in pieces, of no words.
func arenas(t testing.TB) map[string]*heap.Heap {
	full, _ := must(t, 9, 1, 1, 1)
	small, _ := must(t, 10, 3, 2)
	small.Release(1)
	small.Alloc(7, 2)
	many, _ := most(t)
	other, at := most(t)
	for n := 0; n < len(at); n += 2 {
		other.Release(at[n])
	}
	list := map[string]*heap.Heap{
		"a zero one":                    new(heap.Heap),
		"full":                          full,
		"in pieces":                     pieces(t, 30, 0, 2, 4),
		"in pieces, the greatest first": pieces(t, 30, 1, 3),
		"in pieces too small":           small,
		"all released":                  pieces(t, 30, 0, 1, 2, 3, 4),
		"as many as there are":          many,
		"every other one":               other,
	}
	for _, size := range []int{-1, 0, 1, 2, 3, 4, 5, 17, api.MaxWords - 1, api.MaxWords, api.MaxWords + 1} {
		list["of "+strconv.Itoa(size)] = heap.New(size)
	}
	return list
}

// pieces: five objects of unlike lengths, some released.
func pieces(t testing.TB, size int, gone ...int) *heap.Heap {
	h, at := must(t, size, 1, 6, 2, 0, 5)
	for _, n := range gone {
		h.Release(at[n])
	}
	return h
}

// asAlloc: Fits, held against what Alloc then answers (and is taken back).
func asAlloc(t testing.TB, name string, h *heap.Heap, words int) {
	t.Helper()
	all, free := h.All(), h.Free()
	got := Fits(h, words)
	if again := Fits(h, words); again != got || !slices.Equal(h.All(), all) || !slices.Equal(h.Free(), free) {
		t.Fatalf("P12.2: %s: Fits(%d): %t, then %t; of %v: %v", name, words, got, again, free, h.Free())
	}
	at, err := h.Alloc(1, words)
	if got != (err == api.OK) {
		t.Fatalf("P12.2: %s: Fits(%d): %t; Alloc: %d; %v", name, words, got, err, free)
	}
	h.Release(at)
}

func TestFitsAsAllocAnswers(t *testing.T) {
	for name, h := range arenas(t) {
		for words := -5; words <= h.Size()+5; words++ {
			asAlloc(t, name, h, words)
		}
		for _, words := range []int{api.MaxWords, -api.MaxWords, 1 << 31, 1<<31 - 1, 1 << 32, 1<<32 + 1, 1<<32 - 2, 1 << 62, -1 << 62,
			math.MaxInt, math.MaxInt - 1, math.MaxInt - 2, math.MaxInt - 3, math.MinInt, math.MinInt + 1, math.MinInt + 2, math.MinInt32} {
			asAlloc(t, name, h, words)
		}
	}
}

// Nothing of an arena is changed by asking, not a word of an object either.
func TestFitsChangesNothing(t *testing.T) {
	for name, h := range arenas(t) {
		before := text(h)
		for words := -3; words < 12; words++ {
			Fits(h, words)
		}
		Fits(h, h.Size())
		Fits(h, math.MaxInt)
		if after := text(h); after != before {
			t.Fatalf("P12.2: %s: of %s: %s", name, before, after)
		}
	}
}

func TestFitsInEachEmptyArena(t *testing.T) {
	for size := 0; size <= api.MaxWords; size++ {
		h := heap.New(size)
		most := size - api.Header
		if Fits(h, -1) || Fits(h, math.MinInt) || Fits(h, most+1) || Fits(h, math.MaxInt) || Fits(h, most) != (most >= 0) || Fits(h, 0) != (most >= 0) || Fits(h, most/2) != (most >= 0) {
			t.Fatalf("P12.2: %d words", size)
		}
	}
}

// By blocks, not by all that is free: two that are apart don't add up, and no block need be the first one.
func TestFitsByBlocks(t *testing.T) {
	h, at := must(t, 15, 1, 1, 1, 1, 1)
	if Fits(h, 0) {
		t.Error("P12.2: it is full")
	}
	h.Release(at[0])
	h.Release(at[2])
	h.Release(at[4])
	if !Fits(h, 0) || !Fits(h, 1) || Fits(h, 2) || Fits(h, 4) || Fits(h, 7) {
		t.Error("P12.2: three blocks of three words")
	}
	h.Release(at[3])
	if !Fits(h, 7) || Fits(h, 8) || Fits(h, 10) {
		t.Error("P12.2: the last one has nine words")
	}
	h.Release(at[1])
	if !Fits(h, 13) || Fits(h, 14) {
		t.Error("P12.2: all words are free")
	}
}

func TestFitsOfDrawnArenas(t *testing.T) {
	for seed := range 600 {
		h := drawn(rand.New(rand.NewSource(int64(seed))))
		before := text(h)
		for words := -3; words < h.Size()+3; words++ {
			asAlloc(t, before, h, words)
		}
		if after := text(h); after != before {
			t.Fatalf("P12.2: of %s: %s", before, after)
		}
	}
}

// What is released fits, and what has been placed doesn't any more.
func TestFitsAfterCollect(t *testing.T) {
	h, at := must(t, 20, 3, 3, 3, 3)
	if Fits(h, 0) {
		t.Error("P12.2: it is full")
	}
	Collect(h, []int{at[0], at[3]}, newGraph(nil).refs)
	if !Fits(h, 8) || Fits(h, 9) {
		t.Error("P12.2: ten words are free")
	}
	h.Alloc(1, 4)
	if !Fits(h, 2) || Fits(h, 3) {
		t.Error("P12.2: four words are free")
	}
}
