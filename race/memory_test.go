package race

import (
	"math/rand"
	"slices"
	"testing"

	"loom/api"
)

// spoil: all of a list, its spare room too, and what is put behind it.
func spoil(list []int, v int) {
	_ = append(list, v, v, v, v)
	list = list[:cap(list)]
	for n := range list {
		list[n] = v
	}
}

// roomy: a clock with spare room behind it.
func roomy(length int) Clock {
	c := make(Clock, length, length+20)
	for n := range c[:cap(c)] {
		c[:cap(c)][n] = 3*n + 1
	}
	return c
}

func TestBeforeAndJoinKeepAndChangeNothing(t *testing.T) {
	for one := range 20 {
		for other := range 20 {
			a, b := roomy(one), roomy(other)
			aWas, bWas := slices.Clone(a[:cap(a)]), slices.Clone(b[:cap(b)])
			before := a.Before(b)
			j, again := Join(a, b), Join(a, b)
			was := slices.Clone(j)
			if !slices.Equal(a[:cap(a)], aWas) || !slices.Equal(b[:cap(b)], bWas) {
				t.Fatalf("P17.1: what was handed in was changed: %v, %v", a[:cap(a)], b[:cap(b)])
			}
			spoil(again, 77)
			if !slices.Equal(j, was) || !slices.Equal(a[:cap(a)], aWas) || !slices.Equal(b[:cap(b)], bWas) {
				t.Fatalf("P17.1: an answer shares memory: %v, %v, %v", j, a, b)
			}
			spoil(a, 78)
			spoil(b, 79)
			if !slices.Equal(j, was) {
				t.Fatalf("P17.1: what was handed in was kept: %v", j)
			}
			// What was spare room is no part of the clock: the same numbers without it tell the same.
			if wantBefore(aWas[:one], bWas[:other]) != before || !slices.Equal(wantJoin(aWas[:one], bWas[:other]), was) {
				t.Fatalf("P17.1: %d and %d: %t, %v", one, other, before, was)
			}
		}
	}
}

// A join with nothing, or with itself, is a clock of its own too.
func TestAJoinIsAClockOfItsOwn(t *testing.T) {
	c := wantJoin(Clock{1, 2, 3}, nil)
	for _, j := range []Clock{Join(c, nil), Join(nil, c), Join(c, c), Join(c, c[:2]), Join(c[:1], c)} {
		spoil(j, 77)
		if say(c) != "[1 2 3]" {
			t.Fatalf("P17.1: %v", c)
		}
	}
	one, other := Join(nil, nil), Join(nil, nil)
	spoil(one, 77)
	if say(other) != "[]" || say(Join(nil, nil)) != "[]" {
		t.Errorf("P17.1: %v", other)
	}
}

func TestClocksAreTheCallers(t *testing.T) {
	r := rand.New(rand.NewSource(5))
	ids := append(upTo(api.MaxThreads), 0, -1, 13, 99)
	for range 60 {
		p := newPair(t)
		for range 40 {
			var clocks, was []Clock
			for _, id := range ids {
				clocks = append(clocks, p.w.Clock(id), p.w.Clock(id))
			}
			for _, c := range clocks {
				was = append(was, slices.Clone(c))
			}
			for n := 1; n < len(clocks); n += 2 {
				spoil(clocks[n], 77)
				if !slices.Equal(clocks[n-1], was[n-1]) {
					t.Fatalf("P17.2: two answers share memory: %v", clocks[n-1])
				}
			}
			p.same()
			// An answer stays, whatever the watch is told.
			for range 5 {
				p.run(drawn(r, upTo(4), upTo(2), upTo(2)))
			}
			for n := 0; n < len(clocks); n += 2 {
				if !slices.Equal(clocks[n], was[n]) {
					t.Fatalf("P17.2: an earlier answer was changed: %v, not %v", clocks[n], was[n])
				}
				spoil(clocks[n], 78)
			}
			p.same()
		}
	}
}

// What locks, ends and words keep isn't touched by what is done with a clock either.
func TestWhatIsKeptIsNoAnswers(t *testing.T) {
	w := New()
	spoil(w.Clock(1), 50)
	w.Write(1, 5, 0, false)
	spoil(w.Clock(1), 51)
	w.Release(1, 9)
	spoil(w.Clock(1), 52)
	w.Write(1, 5, 1, true)
	w.End(1)
	spoil(w.Clock(1), 53)
	w.Acquire(2, 9)
	walk(t, w, "P17.2", []step{
		{call{"acquire", 2, 9, 0}, "", "[0 3] [0 1 1] [0 0 0 1] [0 0 0 0 1]"},
		{call{"vread", 3, 5, 1}, "false", "[0 3] [0 1 1] [0 2 0 1] [0 0 0 0 1]"},
		{call{"joined", 4, 1, 0}, "", "[0 3] [0 1 1] [0 2 0 1] [0 3 0 0 1]"},
		{call{"read", 2, 5, 0}, "false", "[0 3] [0 1 1] [0 2 0 1] [0 3 0 0 1]"},
		{call{"read", 5, 5, 0}, "true", "[0 3] [0 1 1] [0 2 0 1] [0 3 0 0 1]"},
	})
}

// Two of them, told unlike things by turns.
func TestTwoOfThem(t *testing.T) {
	one, other := newPair(t), newPair(t)
	one.run(call{"write", 1, 5, 0})
	other.run(call{"write", 2, 5, 0})
	one.run(call{"release", 1, 9, 0})
	other.run(call{"acquire", 3, 9, 0})
	r := rand.New(rand.NewSource(6))
	for range 400 {
		one.run(drawn(r, upTo(4), upTo(3), upTo(2)))
		other.run(drawn(r, upTo(5), upTo(2), upTo(2)))
		one.same()
		other.same()
	}
}

// One that New didn't make was told nothing either.
func TestTheZeroWatch(t *testing.T) {
	for _, c := range few(3) {
		p := &pair{t: t, w: new(Watch), d: newModel()}
		p.same()
		p.run(c)
		p.run(call{"write", 2, 5, 0})
		p.run(c)
		p.same()
	}
	if New() == nil {
		t.Error("New told nil")
	}
}

// The same calls tell the same, however often they are made.
func TestTheSameAgain(t *testing.T) {
	want := text(busy())
	for range 50 {
		if got := text(busy()); got != want {
			t.Fatalf("P17.1: %s, not %s", got, want)
		}
	}
}
