package heap

import (
	"fmt"
	"math"
	"math/rand"
	"slices"
	"testing"

	"loom/api"
)

// model of an arena, word by word: whose each one is; it knows nothing of blocks.
type model struct {
	owner   []int // by addresses, 0 unused: where the object begins that has the word; 0: it is free
	objects map[int]thing
}

type thing struct {
	class int
	words []uint64
}

func newModel(words int) *model {
	size := words
	if words < 0 {
		size = 0
	}
	if words > api.MaxWords {
		size = api.MaxWords
	}
	return &model{owner: make([]int, size+1), objects: map[int]thing{}}
}

// freeFrom: how many words are free from an address on.
func (m *model) freeFrom(at int) int {
	count := 0
	for at+count < len(m.owner) && m.owner[at+count] == 0 {
		count++
	}
	return count
}

func (m *model) alloc(class, words int) (int, api.Errno) {
	if class < 0 || words < 0 {
		return 0, api.ErrAddr
	}
	for at := 1; at < len(m.owner); at++ {
		if words > api.MaxWords || m.freeFrom(at) < words+api.Header {
			continue
		}
		for here := at; here < at+words+api.Header; here++ {
			m.owner[here] = at
		}
		m.objects[at] = thing{class, make([]uint64, words)}
		return at, api.OK
	}
	return 0, api.ErrMemory
}

func (m *model) release(at int) api.Errno {
	if _, there := m.objects[at]; !there {
		return api.ErrAddr
	}
	delete(m.objects, at)
	for here, of := range m.owner {
		if of == at {
			m.owner[here] = 0
		}
	}
	return api.OK
}

func (m *model) put(at, i int, v uint64) api.Errno {
	o, there := m.objects[at]
	if !there || i < 0 || i >= len(o.words) {
		return api.ErrAddr
	}
	o.words[i] = v
	return api.OK
}

func (m *model) all() []int {
	list := []int{}
	for at := range m.objects {
		list = append(list, at)
	}
	slices.Sort(list)
	return list
}

func (m *model) free() []api.Block {
	list := []api.Block{}
	for at := 1; at < len(m.owner); at++ {
		if m.owner[at] == 0 && (at == 1 || m.owner[at-1] != 0) {
			list = append(list, api.Block{At: at, Words: m.freeFrom(at)})
		}
	}
	return list
}

// text: all that can be told of it.
func (m *model) text() string {
	s := fmt.Sprint(len(m.owner)-1, m.free())
	for _, at := range m.all() {
		s += fmt.Sprintf(" %d:%d%x", at, m.objects[at].class, m.objects[at].words)
	}
	return s
}

// text: all that an arena tells; an error that may not be stands in it.
func text(h *Heap) string {
	s := fmt.Sprint(h.Size(), append([]api.Block{}, h.Free()...))
	for _, at := range h.All() {
		class, err := h.Class(at)
		count, other := h.Words(at)
		if err != api.OK || other != api.OK {
			return s + fmt.Sprintf(" %d: %d, %d", at, err, other)
		}
		words := make([]uint64, count)
		for i := range words {
			if words[i], err = h.Get(at, i); err != api.OK {
				return s + fmt.Sprintf(" %d, %d: %d", at, i, err)
			}
		}
		s += fmt.Sprintf(" %d:%d%x", at, class, words)
	}
	return s
}

// whole: P11.3, by what the arena itself tells, and that its lists rise and free blocks don't touch.
func whole(t testing.TB, h *Heap) {
	t.Helper()
	had := make([]int, h.Size()+1)
	take := func(at, words int) {
		if at < 1 || words < 1 || at+words-1 > h.Size() {
			t.Fatalf("P11.3: %d words at %d of %d", words, at, h.Size())
		}
		for here := at; here < at+words; here++ {
			had[here]++
		}
	}
	last := 0
	for _, at := range h.All() {
		if at <= last {
			t.Fatalf("P11.2: objects don't rise: %v", h.All())
		}
		words, err := h.Words(at)
		if err != api.OK || words < 0 {
			t.Fatalf("P11.2: %d words at %d, %d", words, at, err)
		}
		take(at, words+api.Header)
		last = at
	}
	end := -1 // the word behind the last free block
	for _, b := range h.Free() {
		if b.At <= end {
			t.Fatalf("P11.2: free blocks touch, or don't rise: %v", h.Free())
		}
		take(b.At, b.Words)
		end = b.At + b.Words
	}
	for at, times := range had[1:] {
		if times != 1 {
			t.Fatalf("P11.3: word %d is had %d times: %s", at+1, times, text(h))
		}
	}
}

// pair: an arena and its model, told the same.
type pair struct {
	t testing.TB
	h *Heap
	m *model
}

func newPair(t testing.TB, words int) pair { return pair{t, New(words), newModel(words)} }

func (p pair) alloc(class, words int) int {
	p.t.Helper()
	at, err := p.h.Alloc(class, words)
	if want, wantErr := p.m.alloc(class, words); at != want || err != wantErr {
		p.t.Fatalf("P11.1: Alloc(%d, %d): %d, %d, not %d, %d: %s", class, words, at, err, want, wantErr, text(p.h))
	}
	return at
}

func (p pair) release(at int) {
	p.t.Helper()
	err := p.h.Release(at)
	if want := p.m.release(at); err != want {
		p.t.Fatalf("P11.1: Release(%d): %d, not %d: %s", at, err, want, text(p.h))
	}
}

func (p pair) put(at, i int, v uint64) {
	p.t.Helper()
	err := p.h.Put(at, i, v)
	if want := p.m.put(at, i, v); err != want {
		p.t.Fatalf("P11.2: Put(%d, %d, %d): %d, not %d: %s", at, i, v, err, want, text(p.h))
	}
}

// same: the arena tells what the model does, of objects and of the whole.
func (p pair) same() {
	p.t.Helper()
	if got, want := text(p.h), p.m.text(); got != want {
		p.t.Fatalf("P11.2: %s, not %s", got, want)
	}
	whole(p.t, p.h)
}

// everywhere: of each address, of those around the arena too, what it tells; nothing beside an error.
func (p pair) everywhere() {
	p.t.Helper()
	for at := -2; at <= p.h.Size()+3; at++ {
		o, there := p.m.objects[at]
		want := api.OK
		if !there {
			want = api.ErrAddr
		}
		class, err := p.h.Class(at)
		words, other := p.h.Words(at)
		if class != o.class || words != len(o.words) || err != want || other != want {
			p.t.Fatalf("P11.2: at %d: %d, %d, %d, %d: %s", at, class, err, words, other, p.m.text())
		}
		for i := -1; i <= len(o.words); i++ {
			value, here := uint64(0), api.ErrAddr
			if i >= 0 && i < len(o.words) {
				value, here = o.words[i], api.OK
			}
			if v, err := p.h.Get(at, i); v != value || err != here {
				p.t.Fatalf("P11.2: Get(%d, %d): %d, %d, not %d, %d", at, i, v, err, value, here)
			}
		}
	}
}

// word: a value that may be taken for a header, for an address, or for neither.
func word(r *rand.Rand, size int) uint64 {
	switch r.Intn(6) {
	case 0:
		return uint64(r.Intn(size+2))<<1 | uint64(r.Intn(2))
	case 1:
		return uint64(r.Intn(size + 2))
	case 2:
		return math.MaxUint64 - uint64(r.Intn(3))
	case 3:
		return uint64(r.Intn(size+2)) << (r.Intn(8) * 8)
	case 4:
		return 1 << r.Intn(64)
	}
	return r.Uint64()
}

// drawn: one call, of any kind; objects of at most most words.
func (p pair) drawn(r *rand.Rand, most int) {
	p.t.Helper()
	at := r.Intn(p.h.Size()+6) - 3
	if all := p.m.all(); len(all) > 0 && r.Intn(4) > 0 {
		at = all[r.Intn(len(all))]
	}
	switch r.Intn(8) {
	case 0, 1, 2:
		p.alloc(r.Intn(40)-1, r.Intn(most+2)-1)
	case 3, 4:
		p.release(at)
	default:
		i := r.Intn(most+3) - 1
		p.put(at, i, word(r, p.h.Size()))
	}
}

func TestDrawnRows(t *testing.T) {
	for _, size := range []int{0, 1, 2, 3, 5, 8, 13, 30, 100, 300} {
		for _, most := range []int{0, 1, 3, 8, 40} {
			r := rand.New(rand.NewSource(int64(size*1000 + most)))
			p := newPair(t, size)
			for step := range 1500 {
				p.drawn(r, most)
				p.same()
				if step%10 == 0 {
					p.everywhere()
				}
			}
		}
	}
}

// The greatest arena, filled and emptied by turns.
func TestDrawnRowsOfTheGreatest(t *testing.T) {
	for _, most := range []int{0, 2, 60, 700} {
		r := rand.New(rand.NewSource(int64(most)))
		p := newPair(t, api.MaxWords)
		for round := range 6 {
			for step := range 150 {
				if round%2 == 0 {
					p.alloc(step, r.Intn(most+1))
				} else {
					p.drawn(r, most)
				}
				if step%15 == 0 {
					p.same()
				}
			}
			p.everywhere()
		}
		for _, at := range p.m.all() {
			p.release(at)
		}
		p.same()
		if got := text(p.h); got != "2048 [{1 2048}]" {
			t.Errorf("P11.1: all is released: %s", got)
		}
	}
}

// All rows of calls there are, of a few calls in small arenas.
func TestAllShortRows(t *testing.T) {
	var calls []func(p pair)
	for words := range 3 {
		calls = append(calls, func(p pair) {
			if at := p.alloc(words+4, words); at > 0 && words > 0 {
				// What a later object of another length begins upon looks like an object.
				p.put(at, 0, 2<<1|1)
				p.put(at, words-1, 3<<1|1)
			}
		})
	}
	for at := 1; at <= 7; at++ {
		calls = append(calls, func(p pair) { p.release(at) })
	}
	for size := range 8 {
		for row := range 100000 {
			p := newPair(t, size)
			for rest := row; rest > 0; rest /= 10 {
				calls[rest%10](p)
			}
			p.same()
		}
	}
}

func FuzzCalls(f *testing.F) {
	f.Add(int64(1), 20, 4)
	f.Add(int64(2), -1, 0)
	f.Add(int64(3), 5000, 300)
	f.Fuzz(func(t *testing.T, seed int64, size, most int) {
		r := rand.New(rand.NewSource(seed))
		p := newPair(t, size)
		for range 60 {
			p.drawn(r, min(max(most, 0), api.MaxWords))
		}
		p.same()
		p.everywhere()
	})
}
