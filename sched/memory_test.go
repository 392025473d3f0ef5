package sched

import (
	"math/rand"
	"slices"
	"testing"

	"loom/api"
)

// spoil: all of a list, its spare room too, and what is put behind it.
func spoil(list []int, v int) {
	_ = append(list, v, v, v, v)
	list = list[:cap(list)]
	for n := range list {
		list[n] = v
	}
}

func TestAnswersAreNewMemory(t *testing.T) {
	r := rand.New(rand.NewSource(14))
	ids := numbers()
	for range 40 {
		p := newPair(t)
		for range 60 {
			one, other := p.s.Ready(), p.s.Ready()
			was := slices.Clone(one)
			spoil(other, 77)
			if !slices.Equal(one, was) {
				t.Fatalf("P14.2: an earlier answer was touched: %v, not %v", one, was)
			}
			p.same(ids, picks())
			// An answer stays, whatever becomes of the threads.
			p.run(drawn(r, ids[:12]))
			p.same(ids, picks())
			if !slices.Equal(one, was) {
				t.Fatalf("P14.2: an earlier answer was changed: %v, not %v", one, was)
			}
			spoil(one, 78)
			p.same(ids, picks())
		}
	}
}

func TestWhatEndTellsIsNewMemory(t *testing.T) {
	for count := range api.MaxThreads - 1 {
		p := newPair(t)
		for range api.MaxThreads {
			p.run(call{"spawn", 0, 0})
		}
		for n := range count {
			p.run(call{"join", 2 + n, 1})
		}
		freed, err := p.s.End(1)
		p.d.end(1)
		ready := p.s.Ready()
		was, readyWas := slices.Clone(freed), slices.Clone(ready)
		if err != api.OK || len(freed) != count {
			t.Fatalf("P14.1: %v, %d", freed, err)
		}
		for n := range count {
			p.run(call{"join", 2 + n, 12})
		}
		again, _ := p.s.End(12)
		p.d.end(12)
		if !slices.Equal(again, was) || !slices.Equal(freed, was) {
			t.Fatalf("P14.1: %v, %v, not %v", again, freed, was)
		}
		spoil(again, 77)
		if !slices.Equal(freed, was) || !slices.Equal(ready, readyWas) {
			t.Fatalf("P14.1: an earlier answer was touched: %v, %v", freed, ready)
		}
		spoil(freed, 78)
		if !slices.Equal(ready, readyWas) {
			t.Fatalf("P14.1: an earlier answer was touched: %v", ready)
		}
		p.same(numbers(), picks())
	}
}

// Two of them, told unlike things by turns.
func TestTwoOfThem(t *testing.T) {
	one, other := newPair(t), newPair(t)
	one.run(call{"spawn", 0, 0})
	if got := other.run(call{"end", 1, 0}); got != "[] 140" {
		t.Fatalf("P14.1: a thread of another one: %s", got)
	}
	r := rand.New(rand.NewSource(5))
	for range 500 {
		one.run(drawn(r, numbers()[:12]))
		other.run(drawn(r, numbers()[:12]))
		one.same(numbers(), picks())
		other.same(numbers(), picks())
	}
}

// One that New didn't make has no threads either.
func TestTheZeroSched(t *testing.T) {
	for _, c := range calls([]int{-1, 0, 1, 2}, []int{0, 1, 2, 3, 4, 5}) {
		p := &pair{t: t, s: new(Sched)}
		p.same(numbers(), picks())
		p.run(c)
		p.run(call{"spawn", 0, 0})
		p.run(c)
		p.same(numbers(), picks())
	}
	if New() == nil {
		t.Error("New told nil")
	}
}
