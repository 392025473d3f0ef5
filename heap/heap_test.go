package heap

import (
	"math"
	"testing"

	"loom/api"
)

// filled: an arena of just these objects, one behind the other, of class 1, 2 ..; where each begins.
func filled(t testing.TB, words ...int) (*Heap, []int) {
	t.Helper()
	size := 0
	for _, count := range words {
		size += count + api.Header
	}
	h := New(size)
	var at []int
	for n, count := range words {
		at = append(at, must(t, h, n+1, count))
	}
	if len(h.Free()) != 0 {
		t.Fatalf("P11.1: %s", text(h))
	}
	return h, at
}

func must(t testing.TB, h *Heap, class, words int) int {
	t.Helper()
	at, err := h.Alloc(class, words)
	if err != api.OK {
		t.Fatalf("P11.1: Alloc(%d, %d): %d: %s", class, words, err, text(h))
	}
	return at
}

func let(t testing.TB, h *Heap, list ...int) {
	t.Helper()
	for _, at := range list {
		if err := h.Release(at); err != api.OK {
			t.Fatalf("P11.1: Release(%d): %d: %s", at, err, text(h))
		}
	}
}

func tells(t testing.TB, h *Heap, want string) {
	t.Helper()
	whole(t, h)
	if got := text(h); got != want {
		t.Fatalf("P11.2: %s, not %s", got, want)
	}
}

// refuses: an Alloc that answers an error, no address beside it, and changes nothing.
func refuses(t testing.TB, h *Heap, class, words int, want api.Errno) {
	t.Helper()
	before := text(h)
	if at, err := h.Alloc(class, words); at != 0 || err != want {
		t.Fatalf("P11.1: Alloc(%d, %d): %d, %d, not %d: %s", class, words, at, err, want, before)
	}
	tells(t, h, before)
}

func TestTheExample(t *testing.T) {
	h := New(10)
	if one, other := must(t, h, 5, 3), must(t, h, 5, 3); one != 1 || other != 6 {
		t.Errorf("P11.1: at %d, at %d", one, other)
	}
	tells(t, h, "10 [] 1:5[0 0 0] 6:5[0 0 0]")
}

func TestNew(t *testing.T) {
	const none, most = "0 []", "2048 [{1 2048}]"
	for _, c := range []struct {
		words int
		want  string
	}{
		{math.MinInt, none}, {math.MinInt32, none}, {-api.MaxWords, none}, {-2, none}, {-1, none}, {0, none},
		{1, "1 [{1 1}]"}, {api.Header - 1, "1 [{1 1}]"}, {api.Header, "2 [{1 2}]"}, {api.Header + 1, "3 [{1 3}]"}, {77, "77 [{1 77}]"},
		{api.MaxWords - 1, "2047 [{1 2047}]"}, {api.MaxWords, most}, {api.MaxWords + 1, most},
		{2 * api.MaxWords, most}, {1<<32 + 5, most}, {1 << 60, most}, {math.MaxInt, most},
	} {
		h := New(c.words)
		tells(t, h, c.want)
		refuses(t, h, 0, max(0, h.Size()-api.Header+1), api.ErrMemory)
		for at := -2; at < 5; at++ {
			if err := h.Release(at); err != api.ErrAddr {
				t.Errorf("P11.1: New(%d): Release(%d): %d", c.words, at, err)
			}
		}
		tells(t, h, c.want)
	}
}

// An arena of each size there is takes one object that is as great as it, and no greater one.
func TestEachSize(t *testing.T) {
	for size := -3; size <= api.MaxWords+3; size++ {
		h, has := New(size), min(max(size, 0), api.MaxWords)
		if h.Size() != has {
			t.Fatalf("P11.1: New(%d): %d words", size, h.Size())
		}
		if has < api.Header {
			refuses(t, h, 3, 0, api.ErrMemory)
			continue
		}
		refuses(t, h, 3, has-api.Header+1, api.ErrMemory)
		at := must(t, h, 3, has-api.Header)
		if at != 1 || len(h.Free()) != 0 || h.Size() != has {
			t.Fatalf("P11.1: New(%d): %s", size, text(h))
		}
		refuses(t, h, 3, 0, api.ErrMemory)
		whole(t, h)
	}
}

func TestAllocOfWhatMayNotBe(t *testing.T) {
	full, _ := filled(t, 3, 0)
	split, at := filled(t, 3, 2, 3)
	let(t, split, at[0], at[2])
	for _, h := range []*Heap{New(20), New(1), New(0), New(-1), full, split, new(Heap)} {
		for _, wrong := range []int{-1, -2, -3, -api.MaxWords, math.MinInt32, math.MinInt, math.MinInt + 1} {
			// What else is asked for doesn't matter: there is room for it, there is none, there could never be.
			for _, other := range []int{0, 1, 18, 19, api.MaxWords, math.MaxInt, -1, math.MinInt} {
				refuses(t, h, wrong, other, api.ErrAddr)
				refuses(t, h, other, wrong, api.ErrAddr)
			}
		}
	}
}

func TestAllocOfTooMuch(t *testing.T) {
	split, at := filled(t, 3, 2, 3)
	let(t, split, at[0], at[2])
	for _, h := range []*Heap{New(api.MaxWords), New(20), New(2), New(1), New(0), split, new(Heap)} {
		for _, words := range []int{api.MaxWords - 1, api.MaxWords, 1 << 32, 1<<32 - api.Header, 1 << 62, 1<<63 - 8, math.MaxInt32,
			math.MaxInt, math.MaxInt - 1, math.MaxInt - api.Header, math.MaxInt - api.Header + 1, math.MaxInt - api.MaxWords} {
			for _, class := range []int{0, 1, math.MaxInt} {
				refuses(t, h, class, words, api.ErrMemory)
			}
		}
	}
}

func TestClassesOfAllSizes(t *testing.T) {
	h := New(api.MaxWords)
	for n, class := range []int{0, 1, 2, 3, 1000, 1<<31 - 1, 1 << 31, 1 << 32, 1<<32 + 1, 1 << 61, 1 << 62, math.MaxInt - 1, math.MaxInt} {
		at := must(t, h, class, n%3)
		if got, err := h.Class(at); got != class || err != api.OK {
			t.Errorf("P11.2: class %d: %d, %d", class, got, err)
		}
		if words, err := h.Words(at); words != n%3 || err != api.OK {
			t.Errorf("P11.2: class %d: %d words, %d", class, words, err)
		}
		whole(t, h)
	}
}

func TestAllocOfAWholeBlock(t *testing.T) {
	for words := range 12 {
		h, at := filled(t, 1, words, 1)
		let(t, h, at[1])
		refuses(t, h, 9, words+1, api.ErrMemory)
		if got := must(t, h, 9, words); got != at[1] || len(h.Free()) != 0 {
			t.Errorf("P11.1: %d words: at %d: %s", words, got, text(h))
		}
		refuses(t, h, 9, 0, api.ErrMemory)
	}
}

// What is left of a block stays free, also where it is too little for any object.
func TestWhatIsLeft(t *testing.T) {
	for block := api.Header; block < 12; block++ {
		for words := 0; words+api.Header <= block; words++ {
			p := newPair(t, block+2*api.Header)
			first := p.alloc(1, 0)
			at := p.alloc(2, block-api.Header)
			p.alloc(3, 0)
			p.release(at)
			p.alloc(4, words)
			p.same()
			left := block - words - api.Header
			free := p.h.Free()
			if left == 0 && len(free) != 0 || left > 0 && (len(free) != 1 || free[0] != api.Block{At: at + words + api.Header, Words: left}) {
				t.Errorf("P11.1: %d of %d words: %v", words, block, free)
			}
			p.release(at)
			p.release(first)
			p.same()
		}
	}
}

func TestOneWordIsLeft(t *testing.T) {
	h := New(6)
	must(t, h, 1, 3)
	tells(t, h, "6 [{6 1}] 1:1[0 0 0]")
	refuses(t, h, 2, 0, api.ErrMemory)
	let(t, h, 1)
	must(t, h, 1, 0)
	must(t, h, 2, 1)
	tells(t, h, "6 [{6 1}] 1:1[] 3:2[0]")
	let(t, h, 1)
	must(t, h, 3, 0)
	let(t, h, 3)
	tells(t, h, "6 [{3 4}] 1:3[]")
	h = New(5)
	must(t, h, 1, 0)
	must(t, h, 2, 0)
	let(t, h, 1)
	tells(t, h, "5 [{1 2} {5 1}] 3:2[]")
	let(t, h, 3)
	tells(t, h, "5 [{1 5}]")
}

// The first block with room, not the one that fits best or worst; blocks of too few words are passed.
func TestTheLeastAddressIsTaken(t *testing.T) {
	h, at := filled(t, 1, 0, 6, 0, 3, 0, 9, 0)
	let(t, h, at[0], at[2], at[4], at[6])
	tells(t, h, "35 [{1 3} {6 8} {16 5} {23 11}] 4:2[] 14:4[] 21:6[] 34:8[]")
	for _, c := range []struct {
		words, at int
		free      string
	}{
		{0, 1, "[{3 1} {6 8} {16 5} {23 11}]"},
		{1, 1, "[{6 8} {16 5} {23 11}]"},
		{2, 6, "[{1 3} {10 4} {16 5} {23 11}]"},
		{3, 6, "[{1 3} {11 3} {16 5} {23 11}]"}, // the third one has just as many
		{5, 6, "[{1 3} {13 1} {16 5} {23 11}]"},
		{6, 6, "[{1 3} {16 5} {23 11}]"},
		{7, 23, "[{1 3} {6 8} {16 5} {32 2}]"},
		{9, 23, "[{1 3} {6 8} {16 5}]"},
	} {
		got := must(t, h, 50, c.words)
		if got != c.at {
			t.Errorf("P11.1: %d words: at %d, not %d", c.words, got, c.at)
		}
		whole(t, h)
		if free := text(h)[3 : 3+len(c.free)]; free != c.free {
			t.Errorf("P11.1: %d words: %s, not %s", c.words, free, c.free)
		}
		let(t, h, got)
		tells(t, h, "35 [{1 3} {6 8} {16 5} {23 11}] 4:2[] 14:4[] 21:6[] 34:8[]")
	}
	refuses(t, h, 50, 10, api.ErrMemory)
}

// All blocks together would have room, none of them alone.
func TestMemoryInPieces(t *testing.T) {
	h, at := filled(t, 2, 0, 2, 0, 2, 0, 2)
	let(t, h, at[0], at[2], at[4], at[6])
	refuses(t, h, 1, 3, api.ErrMemory)
	refuses(t, h, 1, 14, api.ErrMemory)
	let(t, h, at[3])
	if got := must(t, h, 1, 3); got != at[2] {
		t.Errorf("P11.1: at %d", got)
	}
	h = New(api.MaxWords)
	for range api.MaxWords / 4 {
		must(t, h, 1, 2)
	}
	for at := 1; at <= api.MaxWords; at += 8 {
		let(t, h, at)
	}
	refuses(t, h, 1, 3, api.ErrMemory)
	if got := must(t, h, 1, 2); got != 1 || len(h.Free()) != 255 {
		t.Errorf("P11.1: at %d, %d blocks", got, len(h.Free()))
	}
}

func TestNewObjectsAreZero(t *testing.T) {
	for words := range 15 {
		for first := range words + 1 {
			// All words that two objects have are written, then another one takes their place.
			p := newPair(t, words+3*api.Header)
			for _, count := range []int{first, words - first} {
				at := p.alloc(math.MaxInt, count)
				for i := range count {
					p.put(at, i, math.MaxUint64)
				}
			}
			last := p.alloc(7, 0)
			for _, at := range p.m.all() {
				if at != last {
					p.release(at)
				}
			}
			at := p.alloc(8, words)
			for i := range words {
				if v, err := p.h.Get(at, i); v != 0 || err != api.OK {
					t.Fatalf("P11.1: %d of %d words: %d, %d", i, words, v, err)
				}
			}
			p.same()
		}
	}
}

func TestTheMostObjects(t *testing.T) {
	h := New(api.MaxWords)
	for n := range api.MaxWords / api.Header {
		if at := must(t, h, n, 0); at != 1+n*api.Header {
			t.Fatalf("P11.1: at %d", at)
		}
	}
	refuses(t, h, 0, 0, api.ErrMemory)
	whole(t, h)
	for n, at := range h.All() {
		if class, err := h.Class(at); at != 1+n*api.Header || class != n || err != api.OK {
			t.Fatalf("P11.2: at %d: %d, %d", at, class, err)
		}
	}
	for at := 1; at <= api.MaxWords; at += 2 * api.Header {
		let(t, h, at)
	}
	if free := h.Free(); len(free) != 512 || free[511] != (api.Block{At: 2045, Words: 2}) {
		t.Fatalf("P11.2: %v", free)
	}
	for at := 3; at <= api.MaxWords; at += 2 * api.Header {
		let(t, h, at)
	}
	tells(t, h, "2048 [{1 2048}]")
}

// An arena that nobody made is one without any words.
func TestZeroHeap(t *testing.T) {
	h := new(Heap)
	tells(t, h, "0 []")
	refuses(t, h, 0, 0, api.ErrMemory)
	for at := -1; at < 3; at++ {
		if err := h.Release(at); err != api.ErrAddr {
			t.Errorf("P11.1: Release(%d): %d", at, err)
		}
	}
}
