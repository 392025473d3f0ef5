package heap

import (
	"math"
	"slices"
	"strings"
	"testing"

	"loom/api"
)

// beside: addresses where no object of an arena can be.
func beside(size int) []int {
	return []int{0, -1, -2, -size, -size - 1, size + 1, size + 2, 2 * size, api.MaxWords + 1, 1 << 16, 1 << 32, 1<<32 + 1, -1 << 32, 1<<32 - 1,
		1 << 62, 1<<62 + 1, math.MaxInt32, math.MinInt32, math.MaxInt, math.MaxInt - 1, math.MinInt, math.MinInt + 1}
}

// written: an arena with blocks of all kinds, whose words hold what may be taken for headers.
func written(t testing.TB) *Heap {
	t.Helper()
	h, at := filled(t, 4, 0, 1, 5, 2, 7, 0)
	for _, at := range at {
		words, _ := h.Words(at)
		for i := range words {
			h.Put(at, i, uint64(2+i)<<1|1)
		}
	}
	let(t, h, at[3], at[5])
	return h
}

const writtenText = "33 [{12 7} {23 9}] 1:1[5 7 9 b] 7:2[] 9:3[5] 19:5[5 7] 32:7[]"

func TestReleaseOfEveryAddress(t *testing.T) {
	tells(t, written(t), writtenText)
	h := written(t)
	objects := h.All()
	for at := -5; at <= h.Size()+5; at++ {
		h := written(t)
		err := h.Release(at)
		if !slices.Contains(objects, at) {
			if err != api.ErrAddr {
				t.Errorf("P11.1: Release(%d): %d", at, err)
			}
			tells(t, h, writtenText)
			continue
		}
		if err != api.OK || slices.Contains(h.All(), at) || len(h.All()) != len(objects)-1 {
			t.Errorf("P11.1: Release(%d): %d: %s", at, err, text(h))
		}
		whole(t, h)
	}
	for _, at := range beside(h.Size()) {
		if err := h.Release(at); err != api.ErrAddr {
			t.Errorf("P11.1: Release(%d): %d", at, err)
		}
	}
	tells(t, h, writtenText)
}

func TestReleaseTwice(t *testing.T) {
	h := written(t)
	for _, at := range h.All() {
		let(t, h, at)
		before := text(h)
		for range 3 {
			if err := h.Release(at); err != api.ErrAddr {
				t.Errorf("P11.1: Release(%d) again: %d", at, err)
			}
			tells(t, h, before)
		}
	}
	tells(t, h, "33 [{1 33}]")
	// Where an object begins that came later it is taken again.
	if at := must(t, h, 1, 4); at != 1 || h.Release(at) != api.OK || h.Release(at) != api.ErrAddr {
		t.Errorf("P11.1: at %d: %s", at, text(h))
	}
}

func TestBlocksThatTouch(t *testing.T) {
	for name, c := range map[string]struct {
		release []int
		free    string
	}{
		"no one":          {[]int{2}, "[{6 5}]"},
		"ahead":           {[]int{1, 2}, "[{3 8}]"},
		"behind":          {[]int{3, 2}, "[{6 7}]"},
		"both":            {[]int{1, 3, 2}, "[{3 10}]"},
		"both, otherwise": {[]int{3, 1, 2}, "[{3 10}]"},
		"not the next":    {[]int{0, 2}, "[{1 2} {6 5}]"},
		"one behind":      {[]int{4, 2}, "[{6 5} {13 6}]"},
		"the first":       {[]int{0}, "[{1 2}]"},
		"the first two":   {[]int{1, 0}, "[{1 5}]"},
		"the last":        {[]int{4}, "[{13 6}]"},
		"the last two":    {[]int{3, 4}, "[{11 8}]"},
		"two pairs":       {[]int{0, 4, 1, 3}, "[{1 5} {11 8}]"},
		"between pairs":   {[]int{0, 4, 1, 3, 2}, "[{1 18}]"},
	} {
		h, at := filled(t, 0, 1, 3, 0, 4)
		for _, n := range c.release {
			let(t, h, at[n])
			whole(t, h)
		}
		if got := text(h); !strings.HasPrefix(got, "18 "+c.free) {
			t.Errorf("P11.2: %s: %s, not %s", name, got, c.free)
		}
	}
}

// orders: all orders of the numbers below count.
func orders(count int) [][]int {
	if count == 0 {
		return [][]int{nil}
	}
	var list [][]int
	for _, o := range orders(count - 1) {
		for at := range count {
			list = append(list, slices.Insert(slices.Clone(o), at, count-1))
		}
	}
	return list
}

// In whatever order all objects are released, all words are one block at the end, and one object takes all of them.
func TestReleaseInAllOrders(t *testing.T) {
	for _, words := range [][]int{{0, 0, 0, 0, 0}, {3, 0, 1, 7, 2}, {1, 1, 1, 1, 1, 1}} {
		for _, order := range orders(len(words)) {
			size := 1 // one word is left behind the last one
			for _, count := range words {
				size += count + api.Header
			}
			p := newPair(t, size)
			var at []int
			for class, count := range words {
				at = append(at, p.alloc(class, count))
			}
			for _, n := range order {
				p.release(at[n])
				p.same()
			}
			if free := p.h.Free(); len(free) != 1 || free[0] != (api.Block{At: 1, Words: size}) {
				t.Fatalf("P11.2: %v: %v", order, free)
			}
			p.alloc(1, size-api.Header)
			p.same()
		}
	}
}

// What lies in words that are free again is nothing, whatever it was.
func TestNothingIsLeftOfWhatWasReleased(t *testing.T) {
	h, at := filled(t, 3, 3, 3)
	for _, at := range at {
		for i := range 3 {
			h.Put(at, i, 2<<1|1)
		}
	}
	let(t, h, at...)
	for at := -1; at <= h.Size()+1; at++ {
		if class, err := h.Class(at); class != 0 || err != api.ErrAddr {
			t.Errorf("P11.2: Class(%d): %d, %d", at, class, err)
		}
		if err := h.Put(at, 0, 1); err != api.ErrAddr {
			t.Errorf("P11.2: Put(%d): %d", at, err)
		}
		if err := h.Release(at); err != api.ErrAddr {
			t.Errorf("P11.1: Release(%d): %d", at, err)
		}
	}
	tells(t, h, "15 [{1 15}]")
	// Objects of other lengths begin within those that were there.
	if one, other := must(t, h, 8, 5), must(t, h, 9, 5); one != 1 || other != 8 {
		t.Errorf("P11.1: at %d, at %d", one, other)
	}
	tells(t, h, "15 [{15 1}] 1:8[0 0 0 0 0] 8:9[0 0 0 0 0]")
	for _, at := range []int{6, 11} {
		if words, err := h.Words(at); words != 0 || err != api.ErrAddr {
			t.Errorf("P11.2: Words(%d): %d, %d", at, words, err)
		}
	}
}
