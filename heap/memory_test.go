package heap

import (
	"math"
	"slices"
	"testing"

	"loom/api"
)

// spoil: all of a list, its spare room too, and what is put behind it.
func spoil[T any](list []T, v T) {
	_ = append(list, v, v, v, v)
	list = list[:cap(list)]
	for at := range list {
		list[at] = v
	}
}

func TestAnswersAreNewMemory(t *testing.T) {
	empty, full := New(12), New(4)
	must(t, full, 1, 2)
	for _, h := range []*Heap{written(t), empty, full, New(0), New(api.MaxWords)} {
		before := text(h)
		all, free := h.All(), h.Free()
		keptAll, keptFree := slices.Clone(all), slices.Clone(free)
		for range 3 {
			spoil(h.All(), 77)
			tells(t, h, before)
			spoil(h.Free(), api.Block{At: 3, Words: 55})
			tells(t, h, before)
			if !slices.Equal(all, keptAll) || !slices.Equal(free, keptFree) {
				t.Fatalf("an earlier answer was touched: %v, %v", all, free)
			}
		}
		// An answer stays, whatever becomes of the arena.
		h.Alloc(1, 0)
		h.Alloc(1, 3)
		for at := range h.Size() + 1 {
			h.Put(at, 0, math.MaxUint64)
			h.Release(at)
		}
		h.Alloc(2, 1)
		if !slices.Equal(all, keptAll) || !slices.Equal(free, keptFree) {
			t.Fatalf("an earlier answer was changed: %v, %v", all, free)
		}
		before = text(h)
		spoil(all, 1)
		spoil(free, api.Block{At: 1, Words: 1})
		tells(t, h, before)
	}
}

// Two arenas, told unlike things by turns.
func TestTwoArenas(t *testing.T) {
	one, other := newPair(t, 40), newPair(t, 40)
	for n := range 30 {
		one.alloc(n, n%4)
		other.alloc(100+n, (n+2)%5)
		one.put(1, 0, uint64(n))
		other.put(1, 0, uint64(1000+n))
		if n%3 == 0 {
			one.release(n % 20)
		}
		if n%4 == 0 {
			other.release(n % 13)
		}
		one.same()
		other.same()
	}
	one.everywhere()
	other.everywhere()
	h := written(t)
	for at := range 40 {
		one.release(at)
		one.same()
		other.same()
		tells(t, h, writtenText)
	}
}

// What is asked changes nothing.
func TestAskingChangesNothing(t *testing.T) {
	h := written(t)
	for range 3 {
		for at := -2; at < h.Size()+3; at++ {
			h.Class(at)
			h.Words(at)
			for i := -2; i < 9; i++ {
				h.Get(at, i)
			}
			h.All()
			h.Free()
			h.Size()
			tells(t, h, writtenText)
		}
	}
}

// An arena is as its calls made it: the same calls, with others between that are refused, make the same one.
func TestRefusedCallsChangeNothing(t *testing.T) {
	plain, disturbed := New(30), New(30)
	disturb := func() {
		for _, c := range []struct{ class, words int }{{-1, 0}, {0, -1}, {-1, 100}, {5, 29}, {5, math.MaxInt}} {
			if at, err := disturbed.Alloc(c.class, c.words); at != 0 || err == api.OK {
				t.Fatalf("P11.1: Alloc(%d, %d): %d, %d", c.class, c.words, at, err)
			}
		}
		for at := -3; at < 36; at++ {
			if slices.Contains(disturbed.All(), at) {
				words, _ := disturbed.Words(at)
				if disturbed.Put(at, words, 9) != api.ErrAddr || disturbed.Put(at, -1, 9) != api.ErrAddr || disturbed.Put(at, -2, 9) != api.ErrAddr {
					t.Fatalf("P11.2: Put at %d", at)
				}
			} else if disturbed.Release(at) != api.ErrAddr || disturbed.Put(at, 0, 9) != api.ErrAddr {
				t.Fatalf("P11.1: Release, or Put, at %d", at)
			}
		}
	}
	for n := range 40 {
		disturb()
		for _, h := range []*Heap{plain, disturbed} {
			h.Alloc(n, n%5)
			if all := h.All(); n%2 == 1 {
				h.Put(all[0], 0, uint64(n))
				h.Release(all[n%len(all)])
			}
		}
		disturb()
		tells(t, disturbed, text(plain))
	}
}

// Many may ask one arena at once, each with an arena of its own beside it.
func TestTellsTheSameToManyAtOnce(t *testing.T) {
	h := written(t)
	done := make(chan bool)
	for n := range 8 {
		go func() {
			own, fine := New(20), true
			for range 50 {
				at, _ := own.Alloc(n, 3)
				fine = fine && at == 1 && own.Put(at, 2, uint64(n)) == api.OK && text(h) == writtenText
				v, _ := own.Get(at, 2)
				fine = fine && v == uint64(n) && own.Release(at) == api.OK
				spoil(h.All(), n)
			}
			done <- fine
		}()
	}
	for range 8 {
		if !<-done {
			t.Errorf("P11.2: something else was told")
		}
	}
}
