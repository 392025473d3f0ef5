package race

import (
	"fmt"
	"slices"
	"testing"

	"loom/api"
)

// busy: a watch of which each thread was told something of each kind, with races.
func busy() *Watch {
	w := New()
	for id := 1; id <= api.MaxThreads; id++ {
		for _, c := range []call{
			{"begin", id, id - 1, 0}, {"acquire", id, 5, 0}, {"write", id, 5, id % 3}, {"vwrite", id, 6, 0},
			{"release", id, 5, 0}, {"read", id, 5, (id + 1) % 3}, {"vread", id, 6, id % 2}, {"end", id, 0, 0}, {"joined", id, 13 - id, 0},
		} {
			run(w, c)
		}
	}
	return w
}

func TestClocksAtFirst(t *testing.T) {
	first(t)
	w := New()
	for id := 1; id <= api.MaxThreads; id++ {
		c := w.Clock(id)
		if want := alone(api.MaxThreads+1, id, 1); !slices.Equal(c, want) {
			t.Errorf("P17.1: Clock(%d): %v", id, c)
		}
	}
}

func TestClockOfNone(t *testing.T) {
	for _, w := range []*Watch{New(), busy()} {
		for _, id := range none() {
			if c := w.Clock(id); len(c) != api.MaxThreads+1 || say(c) != "[]" {
				t.Errorf("P17.2: Clock(%d): %v", id, c)
			}
		}
	}
}

func TestBegin(t *testing.T) {
	walk(t, New(), "P17.1", []step{
		{call{"begin", 1, 0, 0}, "", "[0 1] [0 0 1] [0 0 0 1]"},
		{call{"begin", 2, 1, 0}, "", "[0 2] [0 1 1] [0 0 0 1]"},
		{call{"begin", 3, 2, 0}, "", "[0 2] [0 1 2] [0 1 1 1]"},
		{call{"begin", 2, 1, 0}, "", "[0 3] [0 2 2] [0 1 1 1]"},
		{call{"begin", 3, 1, 0}, "", "[0 4] [0 2 2] [0 3 1 1]"},
		// One that goes on already, by one whom it has begun itself.
		{call{"begin", 1, 3, 0}, "", "[0 4 1 1] [0 2 2] [0 3 1 2]"},
		// By itself: it knows all that already, and its own number is one more.
		{call{"begin", 1, 1, 0}, "", "[0 5 1 1] [0 2 2] [0 3 1 2]"},
		{call{"begin", 1, 0, 0}, "", "[0 5 1 1] [0 2 2] [0 3 1 2]"},
		{call{"begin", 3, 0, 0}, "", "[0 5 1 1] [0 2 2] [0 3 1 2]"},
	})
}

// Whoever begins whom: the one knows what the other one knew ahead of it, and not what it does behind it.
func TestBeginOfEachByEach(t *testing.T) {
	for thread := 1; thread <= api.MaxThreads; thread++ {
		for by := 1; by <= api.MaxThreads; by++ {
			w := New()
			w.Begin(thread, by)
			for id := 1; id <= api.MaxThreads; id++ {
				want := alone(api.MaxThreads+1, id, 1)
				if id == thread && by != thread {
					want[by] = 1
				}
				if id == by {
					want[by] = 2
				}
				if got := w.Clock(id); !slices.Equal(got, want) {
					t.Fatalf("P17.1: Begin(%d, %d): Clock(%d): %v, not %v", thread, by, id, got, want)
				}
			}
		}
	}
}

func TestBeginOfNone(t *testing.T) {
	for _, w := range []*Watch{New(), busy()} {
		for _, wrong := range none() {
			for id := 1; id <= api.MaxThreads; id++ {
				stays(t, w, "P17.1", call{"begin", wrong, id, 0}, "")
				stays(t, w, "P17.1", call{"begin", id, wrong, 0}, "")
			}
			for _, other := range none() {
				stays(t, w, "P17.1", call{"begin", wrong, other, 0}, "")
			}
		}
	}
}

func TestEndAndJoined(t *testing.T) {
	walk(t, New(), "P17.1", []step{
		{call{"joined", 1, 2, 0}, "", "[0 1] [0 0 1] [0 0 0 1]"}, // it hasn't ended
		{call{"release", 2, 9, 0}, "", "[0 1] [0 0 2] [0 0 0 1]"},
		{call{"end", 2, 0, 0}, "", "[0 1] [0 0 2] [0 0 0 1]"},
		{call{"joined", 1, 2, 0}, "", "[0 1 2] [0 0 2] [0 0 0 1]"},
		{call{"joined", 1, 2, 0}, "", "[0 1 2] [0 0 2] [0 0 0 1]"},
		{call{"end", 1, 0, 0}, "", "[0 1 2] [0 0 2] [0 0 0 1]"},
		{call{"joined", 3, 1, 0}, "", "[0 1 2] [0 0 2] [0 1 2 1]"},
	})
}

// What a thread knew at its end is kept, not what it knows later on; a later end is kept instead.
func TestEndTwice(t *testing.T) {
	walk(t, New(), "P17.1", []step{
		{call{"end", 1, 0, 0}, "", "[0 1] [0 0 1] [0 0 0 1]"},
		{call{"release", 1, 9, 0}, "", "[0 2] [0 0 1] [0 0 0 1]"},
		{call{"joined", 2, 1, 0}, "", "[0 2] [0 1 1] [0 0 0 1]"},
		{call{"release", 3, 9, 0}, "", "[0 2] [0 1 1] [0 0 0 2]"},
		{call{"acquire", 1, 9, 0}, "", "[0 2 0 1] [0 1 1] [0 0 0 2]"},
		{call{"joined", 2, 1, 0}, "", "[0 2 0 1] [0 1 1] [0 0 0 2]"},
		{call{"end", 1, 0, 0}, "", "[0 2 0 1] [0 1 1] [0 0 0 2]"},
		{call{"joined", 2, 1, 0}, "", "[0 2 0 1] [0 2 1 1] [0 0 0 2]"},
	})
}

func TestJoinedOfItself(t *testing.T) {
	for id := 1; id <= api.MaxThreads; id++ {
		w := New()
		stays(t, w, "P17.1", call{"joined", id, id, 0}, "")
		w.End(id)
		stays(t, w, "P17.1", call{"joined", id, id, 0}, "")
		w.Release(id, 4)
		stays(t, w, "P17.1", call{"joined", id, id, 0}, "")
	}
}

// Whoever joins whom learns what that one knew, and nobody else does.
func TestJoinedOfEachByEach(t *testing.T) {
	for thread := 1; thread <= api.MaxThreads; thread++ {
		for other := 1; other <= api.MaxThreads; other++ {
			w := New()
			w.Release(other, 4)
			w.End(other)
			w.Joined(thread, other)
			for id := 1; id <= api.MaxThreads; id++ {
				want := alone(api.MaxThreads+1, id, 1)
				if id == thread || id == other {
					want[other] = 2
				}
				if got := w.Clock(id); !slices.Equal(got, want) {
					t.Fatalf("P17.1: Joined(%d, %d): Clock(%d): %v, not %v", thread, other, id, got, want)
				}
			}
		}
	}
}

func TestEndAndJoinedOfNone(t *testing.T) {
	for _, w := range []*Watch{New(), busy()} {
		for _, wrong := range none() {
			stays(t, w, "P17.1", call{"end", wrong, 0, 0}, "")
			for id := 1; id <= api.MaxThreads; id++ {
				stays(t, w, "P17.1", call{"joined", wrong, id, 0}, "")
				stays(t, w, "P17.1", call{"joined", id, wrong, 0}, "")
			}
			for _, other := range none() {
				stays(t, w, "P17.1", call{"joined", wrong, other, 0}, "")
			}
		}
	}
}

// None of what those learn who are no threads is ever told to one that is.
func TestNoneTellsNothing(t *testing.T) {
	want := first(t)
	for _, wrong := range none() {
		w := New()
		for _, c := range []call{
			{"begin", wrong, 1, 0}, {"begin", 1, wrong, 0}, {"begin", wrong, 0, 0}, {"release", wrong, 4, 0}, {"vwrite", wrong, 4, 0}, {"write", wrong, 4, 1}, {"read", wrong, 4, 1},
			{"end", wrong, 0, 0}, {"acquire", 1, 4, 0}, {"vread", 1, 4, 0}, {"joined", 1, wrong, 0},
		} {
			run(w, c)
		}
		if got := text(w); got != want {
			t.Errorf("P17.1: %d: %s", wrong, got)
		}
		if a, b := w.Write(1, 4, 1, false), w.Read(2, 4, 2, false); a || b {
			t.Errorf("P17.2: %d: %t, %t", wrong, a, b)
		}
	}
}

// A thread, its end, the lock and the words of an object of the same number are unlike things.
func TestThreadsAreNoObjects(t *testing.T) {
	for id := 1; id <= api.MaxThreads; id++ {
		other := id%api.MaxThreads + 1
		w := New()
		w.End(id)
		for _, i := range []int{0, id, other} {
			stays(t, w, "P17.1", call{"acquire", other, i, 0}, "")
			for _, at := range []int{0, id, other} {
				stays(t, w, "P17.1", call{"vread", other, at, i}, "false")
			}
		}
		w = New()
		w.Release(id, id)
		w.Write(id, id, 0, true)
		w.Write(id, id, id, true)
		stays(t, w, "P17.1", call{"joined", other, id, 0}, "")
		w.End(other)
		if got := fmt.Sprint(w.Clock(other)[id], w.Clock(id)[id]); got != "0 4" {
			t.Errorf("P17.1: %d: %s", id, got)
		}
	}
}
