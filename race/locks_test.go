package race

import (
	"slices"
	"testing"

	"loom/api"
)

func TestAcquireAndRelease(t *testing.T) {
	walk(t, New(), "P17.1", []step{
		{call{"acquire", 1, 7, 0}, "", "[0 1] [0 0 1] [0 0 0 1]"}, // never released
		{call{"release", 1, 7, 0}, "", "[0 2] [0 0 1] [0 0 0 1]"},
		{call{"acquire", 1, 7, 0}, "", "[0 2] [0 0 1] [0 0 0 1]"}, // its own
		{call{"acquire", 2, 7, 0}, "", "[0 2] [0 1 1] [0 0 0 1]"},
		{call{"release", 2, 7, 0}, "", "[0 2] [0 1 2] [0 0 0 1]"},
		{call{"acquire", 3, 7, 0}, "", "[0 2] [0 1 2] [0 1 1 1]"},
		{call{"release", 1, 8, 0}, "", "[0 3] [0 1 2] [0 1 1 1]"}, // another lock
		{call{"acquire", 3, 7, 0}, "", "[0 3] [0 1 2] [0 1 1 1]"},
		{call{"acquire", 3, 8, 0}, "", "[0 3] [0 1 2] [0 2 1 1]"},
		{call{"acquire", 1, 7, 0}, "", "[0 3 1] [0 1 2] [0 2 1 1]"},
	})
}

// A lock knows all that all those know who released it, whoever did so last.
func TestALockForgetsNothing(t *testing.T) {
	walk(t, New(), "P17.1", []step{
		{call{"release", 1, 7, 0}, "", "[0 2] [0 0 1] [0 0 0 1]"},
		{call{"release", 1, 7, 0}, "", "[0 3] [0 0 1] [0 0 0 1]"},
		{call{"release", 2, 7, 0}, "", "[0 3] [0 0 2] [0 0 0 1]"},
		{call{"acquire", 3, 7, 0}, "", "[0 3] [0 0 2] [0 2 1 1]"},
	})
	w := New()
	for id := 1; id <= api.MaxThreads; id++ {
		w.Release(id, 3)
	}
	w.Acquire(1, 3)
	if got := say(w.Clock(1)); got != "[0 2 1 1 1 1 1 1 1 1 1 1 1]" {
		t.Errorf("P17.1: %s", got)
	}
}

// Each thread with each other one, by a lock and by a volatile word.
func TestEachWithEach(t *testing.T) {
	for from := 1; from <= api.MaxThreads; from++ {
		for to := 1; to <= api.MaxThreads; to++ {
			lock := after(call{"release", from, 4, 0}, call{"acquire", to, 4, 0})
			word := after(call{"vwrite", from, 4, 2}, call{"vread", to, 4, 2})
			for id := 1; id <= api.MaxThreads; id++ {
				want := alone(api.MaxThreads+1, id, 1)
				if id == to {
					want[from] = 1
				}
				if id == from {
					want[from] = 2
				}
				if got := lock.Clock(id); !slices.Equal(got, want) {
					t.Fatalf("P17.1: from %d to %d: Clock(%d): %v, not %v", from, to, id, got, want)
				}
				if got := word.Clock(id); !slices.Equal(got, want) {
					t.Fatalf("P17.2: from %d to %d: Clock(%d): %v, not %v", from, to, id, got, want)
				}
			}
		}
	}
}

// No two objects' locks are one, whatever their numbers are.
func TestLocksOfWhateverObject(t *testing.T) {
	for _, at := range rights() {
		w := after(call{"release", 1, at, 0})
		for _, other := range rights() {
			if other != at {
				stays(t, w, "P17.1", call{"acquire", 2, other, 0}, "")
			}
		}
		walk(t, w, "P17.1", []step{{call{"acquire", 2, at, 0}, "", "[0 2] [0 1 1]"}})
	}
}

func TestAcquireAndReleaseOfNone(t *testing.T) {
	for _, w := range []*Watch{New(), busy()} {
		for _, wrong := range none() {
			for _, at := range rights() {
				stays(t, w, "P17.1", call{"acquire", wrong, at, 0}, "")
				stays(t, w, "P17.1", call{"release", wrong, at, 0}, "")
				stays(t, w, "P17.2", call{"vread", wrong, at, 0}, "false")
				stays(t, w, "P17.2", call{"vwrite", wrong, at, 0}, "false")
			}
		}
	}
	for _, wrong := range none() {
		w := after(call{"release", wrong, 5, 0}, call{"vwrite", wrong, 5, 1})
		stays(t, w, "P17.1", call{"acquire", 1, 5, 0}, "")
		stays(t, w, "P17.2", call{"vread", 1, 5, 1}, "false")
	}
}

func TestVolatileWords(t *testing.T) {
	walk(t, New(), "P17.2", []step{
		{call{"vread", 1, 7, 3}, "false", "[0 1] [0 0 1] [0 0 0 1]"}, // never written
		{call{"vwrite", 1, 7, 3}, "false", "[0 2] [0 0 1] [0 0 0 1]"},
		{call{"vwrite", 2, 7, 3}, "false", "[0 2] [0 0 2] [0 0 0 1]"}, // it learns nothing
		{call{"vread", 2, 7, 3}, "false", "[0 2] [0 1 2] [0 0 0 1]"},
		{call{"vread", 3, 7, 3}, "false", "[0 2] [0 1 2] [0 1 1 1]"},
		{call{"vread", 3, 7, 4}, "false", "[0 2] [0 1 2] [0 1 1 1]"},
		{call{"vread", 1, 7, 3}, "false", "[0 2 1] [0 1 2] [0 1 1 1]"},
	})
}

// No two words are one, whatever their objects' and their own numbers are.
func TestVolatileWordsOfWhateverObject(t *testing.T) {
	for _, word := range words() {
		w := after(call{"vwrite", 1, word[0], word[1]})
		for _, other := range words() {
			if other != word && w.Read(2, other[0], other[1], true) {
				t.Fatalf("P17.2: %v is a race", other)
			}
		}
		walk(t, w, "P17.2", []step{
			{call{"vread", 3, word[0], word[1]}, "false", "[0 2] [0 0 1] [0 1 0 1]"},
			{call{"vread", 2, word[0], word[1]}, "false", "[0 2] [0 1 1] [0 1 0 1]"},
		})
	}
}

// The lock of an object and its volatile words are unlike things, whatever their numbers are.
func TestALockIsNoWord(t *testing.T) {
	for _, at := range rights() {
		w := after(call{"release", 1, at, 0})
		for _, i := range rights() {
			stays(t, w, "P17.2", call{"vread", 2, at, i}, "false")
			stays(t, w, "P17.2", call{"vread", 2, i, at}, "false")
		}
		for _, i := range rights() {
			w := after(call{"vwrite", 1, at, i})
			for _, other := range rights() {
				stays(t, w, "P17.1", call{"acquire", 2, other, 0}, "")
			}
		}
	}
}
