package heap

import (
	"math"
	"slices"
	"testing"

	"loom/api"
)

// strange: of an address where no object begins nothing is told, nothing beside the error, and nothing is changed.
func strange(t testing.TB, h *Heap, at int) {
	t.Helper()
	before := text(h)
	class, err := h.Class(at)
	words, other := h.Words(at)
	if class != 0 || words != 0 || err != api.ErrAddr || other != api.ErrAddr {
		t.Errorf("P11.2: at %d: %d, %d, %d, %d", at, class, err, words, other)
	}
	for _, i := range []int{0, 1, 2, 3, h.Size(), -1, -2, -3, -at, 1 - at, math.MaxInt, math.MinInt} {
		if v, err := h.Get(at, i); v != 0 || err != api.ErrAddr {
			t.Errorf("P11.2: Get(%d, %d): %d, %d", at, i, v, err)
		}
		if err := h.Put(at, i, 77); err != api.ErrAddr {
			t.Errorf("P11.2: Put(%d, %d): %d", at, i, err)
		}
	}
	if text(h) != before {
		t.Errorf("P11.2: at %d: %s, not %s", at, text(h), before)
	}
}

func TestWhereNoObjectBegins(t *testing.T) {
	full, _ := filled(t, 4, 0, 1)
	for _, h := range []*Heap{written(t), full, New(5), New(0), New(1), new(Heap)} {
		for at := -3; at <= h.Size()+3; at++ {
			if !slices.Contains(h.All(), at) {
				strange(t, h, at)
			}
		}
		for _, at := range beside(h.Size()) {
			strange(t, h, at)
		}
	}
}

// indexes beside those of an object with so many words, which begins at an address of an arena of that size.
func indexes(at, words, size int) []int {
	return []int{words, words + 1, words + api.Header, words + 100, size, size - at, size - at + 1, 2 * size, api.MaxWords, 1 << 32, 1<<32 + 1, 1 << 62,
		math.MaxInt32, math.MaxInt, math.MaxInt - 1, math.MaxInt - at, math.MaxInt - at - api.Header + 1, -1, -2, -api.Header - 1, -at, -at - api.Header,
		1 - at - api.Header, -size, -1 << 32, 1 - 1<<32, math.MinInt32, math.MinInt, math.MinInt + 1, math.MinInt + at}
}

func TestIndexes(t *testing.T) {
	h := written(t)
	for _, at := range h.All() {
		words, err := h.Words(at)
		if err != api.OK {
			t.Fatalf("P11.2: Words(%d): %d", at, err)
		}
		for _, i := range indexes(at, words, h.Size()) {
			if v, err := h.Get(at, i); v != 0 || err != api.ErrAddr {
				t.Errorf("P11.2: Get(%d, %d) of %d words: %d, %d", at, i, words, v, err)
			}
			if err := h.Put(at, i, 77); err != api.ErrAddr {
				t.Errorf("P11.2: Put(%d, %d) of %d words: %d", at, i, words, err)
			}
		}
		for i := range words {
			if v, err := h.Get(at, i); v != uint64(2+i)<<1|1 || err != api.OK {
				t.Errorf("P11.2: Get(%d, %d): %d, %d", at, i, v, err)
			}
		}
	}
	tells(t, h, writtenText)
}

func TestIndexesOfTheGreatest(t *testing.T) {
	h := New(api.MaxWords)
	most := api.MaxWords - api.Header
	at := must(t, h, 1, most)
	for i := range most {
		if err := h.Put(at, i, uint64(i)+1); err != api.OK {
			t.Fatalf("P11.2: Put(%d, %d): %d", at, i, err)
		}
	}
	for i := range most {
		if v, err := h.Get(at, i); v != uint64(i)+1 || err != api.OK {
			t.Fatalf("P11.2: Get(%d, %d): %d, %d", at, i, v, err)
		}
	}
	for _, i := range indexes(at, most, api.MaxWords) {
		if v, err := h.Get(at, i); v != 0 || err != api.ErrAddr || h.Put(at, i, 5) != api.ErrAddr {
			t.Errorf("P11.2: Get(%d, %d): %d, %d", at, i, v, err)
		}
	}
	if class, err := h.Class(at); class != 1 || err != api.OK || len(h.All()) != 1 || len(h.Free()) != 0 {
		t.Errorf("P11.2: %d, %d", class, err)
	}
}

func TestAnObjectWithoutWords(t *testing.T) {
	h := New(7)
	at := must(t, h, 4, 0)
	if words, err := h.Words(at); words != 0 || err != api.OK {
		t.Errorf("P11.2: %d, %d", words, err)
	}
	for _, i := range []int{-3, -2, -1, 0, 1, 2} {
		if v, err := h.Get(at, i); v != 0 || err != api.ErrAddr || h.Put(at, i, 9) != api.ErrAddr {
			t.Errorf("P11.2: Get(%d, %d): %d, %d", at, i, v, err)
		}
	}
	tells(t, h, "7 [{3 5}] 1:4[]")
}

// values: words of all kinds, those that may be taken for a header or an address among them.
func values(size int) []uint64 {
	list := []uint64{math.MaxUint64, math.MaxUint64 - 1, 1 << 63, 1<<63 - 1, 1<<63 + 1, 1 << 62, 1 << 32, 1<<32 - 1, math.Float64bits(math.NaN()), math.Float64bits(-0.5)}
	for v := range uint64(2*size + 4) {
		list = append(list, v, v<<32, v<<32|v, v|1<<63, ^v)
	}
	return list
}

// A Put changes the word that it names and nothing else, whatever is put.
func TestPutChangesOneWord(t *testing.T) {
	h := written(t)
	for _, at := range h.All() {
		words, _ := h.Words(at)
		for i := range words {
			old, _ := h.Get(at, i)
			for _, v := range values(h.Size()) {
				if err := h.Put(at, i, v); err != api.OK {
					t.Fatalf("P11.2: Put(%d, %d, %d): %d", at, i, v, err)
				}
				if got, err := h.Get(at, i); got != v || err != api.OK {
					t.Fatalf("P11.2: Get(%d, %d): %d, %d, not %d", at, i, got, err, v)
				}
				changed := text(h)
				h.Put(at, i, old)
				tells(t, h, writtenText)
				if (changed == writtenText) != (v == old) {
					t.Fatalf("P11.2: %s", changed)
				}
			}
		}
	}
}

// Each word has a value of its own; each of them is put anew, and all others stay.
func TestPutLeavesAllOthers(t *testing.T) {
	p := newPair(t, 40)
	for n, words := range []int{3, 0, 5, 1, 4, 9} {
		at := p.alloc(n, words)
		for i := range words {
			p.put(at, i, uint64(100*at+i))
		}
	}
	p.release(p.m.all()[2])
	p.same()
	for _, at := range p.m.all() {
		for i := range p.m.objects[at].words {
			for _, v := range []uint64{0, 1, uint64(at), 3, 7, math.MaxUint64} {
				p.put(at, i, v)
				p.same()
			}
		}
	}
	p.everywhere()
}

// All words of an object look like objects, of whatever length, free blocks, or addresses: no one is deceived, neither ahead of a release nor behind it.
func TestWordsThatLookLikeHeaders(t *testing.T) {
	for _, v := range values(12) {
		p := newPair(t, 20)
		first, middle, last := p.alloc(1, 2), p.alloc(2, 6), p.alloc(3, 0)
		for i := range 2 {
			p.put(first, i, v)
		}
		for i := range 6 {
			p.put(middle, i, v)
		}
		p.same()
		p.everywhere()
		for at := range p.h.Size() + 2 {
			if at != first && at != middle && at != last {
				p.release(at)
			}
		}
		p.same()
		p.release(middle)
		p.same()
		p.everywhere()
		p.alloc(4, 1)
		p.alloc(5, 0)
		p.same()
		p.everywhere()
		p.release(first)
		p.alloc(6, 1)
		p.same()
		p.everywhere()
	}
}

// Classes that look like the first word of a block.
func TestClassesThatLookLikeHeaders(t *testing.T) {
	for class := range 60 {
		p := newPair(t, 16)
		one := p.alloc(class, 3)
		p.alloc(class, 0)
		p.same()
		p.everywhere()
		p.release(one + 1)
		p.release(one)
		p.alloc(class, 1)
		p.same()
		p.everywhere()
	}
}

// Size is the same whatever is done.
func TestSize(t *testing.T) {
	for _, size := range []int{0, 1, 2, 50, api.MaxWords} {
		h := New(size)
		for n := range 60 {
			h.Alloc(n, n%7)
			if h.Size() != size {
				t.Fatalf("P11.2: Size: %d, not %d", h.Size(), size)
			}
			h.Put(1, 0, uint64(n))
			h.Release(n)
			if h.Size() != size {
				t.Fatalf("P11.2: Size: %d, not %d", h.Size(), size)
			}
		}
	}
}
