package sched

import (
	"math"
	"math/rand"
	"slices"
	"testing"

	"loom/api"
)

func TestTheExample(t *testing.T) {
	if id, ok := spawned(3).Pick(4); id != 2 || !ok {
		t.Errorf("P14.2: %d, %t", id, ok)
	}
}

func TestReady(t *testing.T) {
	for _, c := range []struct {
		s    *Sched
		want []int
	}{
		{New(), nil},
		{new(Sched), nil},
		{spawned(1), []int{1}},
		{spawned(1, call{"end", 1, 0}), nil},
		{spawned(2, call{"set", 1, api.Blocked}, call{"set", 2, api.Waiting}), nil},
		{spawned(2, call{"join", 1, 2}, call{"join", 2, 2}), nil},
		{mixed(), []int{1, 2}},
		{spawned(api.MaxThreads), []int{1, 2, 3, 4, 5, 6, 7, 8, 9, 10, 11, 12}},
		{spawned(5, call{"set", 5, api.Blocked}, call{"set", 2, api.Waiting}, call{"set", 5, api.Ready}, call{"set", 2, api.Ready}), []int{1, 2, 3, 4, 5}},
		{spawned(4, call{"join", 4, 2}, call{"join", 1, 2}, call{"set", 3, api.Blocked}, call{"end", 2, 0}), []int{1, 4}},
	} {
		if got := c.s.Ready(); !slices.Equal(got, c.want) {
			t.Errorf("P14.2: %s: %v, not %v", states(c.s), got, c.want)
		}
	}
}

// Each set of ready ones among all that there may be.
func TestEachSetOfReadyOnes(t *testing.T) {
	for set := range 1 << api.MaxThreads {
		s := spawned(api.MaxThreads)
		var want []int
		for n := range api.MaxThreads {
			if set>>n&1 == 1 {
				want = append(want, n+1)
			} else {
				s.Set(n+1, api.Blocked+n%2)
			}
		}
		if got := s.Ready(); !slices.Equal(got, want) {
			t.Fatalf("P14.2: %s: %v, not %v", states(s), got, want)
		}
		if s.Over() || s.Stuck() != (len(want) == 0) {
			t.Fatalf("P14.2: %s: over %t, stuck %t", states(s), s.Over(), s.Stuck())
		}
		for place, id := range want {
			for _, n := range []int{place, place + len(want), place - len(want), place - 3*len(want), place + 1000*len(want)} {
				if got, ok := s.Pick(n); got != id || !ok {
					t.Fatalf("P14.2: %s: Pick(%d): %d, %t, not %d", states(s), n, got, ok, id)
				}
			}
		}
	}
}

func TestPickOfNone(t *testing.T) {
	for _, s := range []*Sched{New(), new(Sched), spawned(1, call{"end", 1, 0}), spawned(1, call{"join", 1, 1}), spawned(2, call{"set", 1, api.Blocked}, call{"set", 2, api.Waiting})} {
		for _, n := range picks() {
			if id, ok := s.Pick(n); id != 0 || ok {
				t.Errorf("P14.2: %s: Pick(%d): %d, %t", states(s), n, id, ok)
			}
		}
	}
}

func TestPickOfOne(t *testing.T) {
	for id := 1; id <= api.MaxThreads; id++ {
		s := spawned(api.MaxThreads)
		for other := 1; other <= api.MaxThreads; other++ {
			if other != id {
				s.Set(other, api.Waiting)
			}
		}
		for _, n := range picks() {
			if got, ok := s.Pick(n); got != id || !ok {
				t.Errorf("P14.2: Pick(%d): %d, %t, not %d", n, got, ok, id)
			}
		}
	}
}

// By how many threads: the greatest int is 2^63 - 1, the least -2^63: remainders worked out by hand.
func TestPickByTheEndsOfInt(t *testing.T) {
	for _, c := range []struct{ count, least, greatest int }{
		{1, 1, 1}, {2, 1, 2}, {3, 2, 2}, {4, 1, 4}, {5, 3, 3}, {6, 5, 2}, {7, 7, 1}, {8, 1, 8}, {9, 2, 8}, {10, 3, 8}, {11, 4, 8}, {12, 5, 8},
	} {
		s := spawned(c.count)
		if id, ok := s.Pick(math.MinInt); id != c.least || !ok {
			t.Errorf("P14.2: %d threads: the least int: %d, %t, not %d", c.count, id, ok, c.least)
		}
		if id, ok := s.Pick(math.MaxInt); id != c.greatest || !ok {
			t.Errorf("P14.2: %d threads: the greatest int: %d, %t, not %d", c.count, id, ok, c.greatest)
		}
	}
}

// Going one on picks the next one, below 0 too, and behind the last the first.
func TestPicksOneBehindTheOther(t *testing.T) {
	s := spawned(7, call{"set", 2, api.Blocked}, call{"end", 5, 0}, call{"join", 1, 7})
	want := []int{3, 4, 6, 7}
	for n := -400; n < 400; n++ {
		if id, ok := s.Pick(n); id != want[(n+400)%4] || !ok {
			t.Fatalf("P14.2: Pick(%d): %d, %t, not %d", n, id, ok, want[(n+400)%4])
		}
	}
}

// Whatever is asked, nothing is changed by it.
func TestAsking(t *testing.T) {
	s := mixed()
	kept, first := *s, tell(s)
	for range 3 {
		if again := tell(s); again != first || *s != kept {
			t.Fatalf("P14.2: %s, and then %s", first, again)
		}
	}
}

func TestLenOverStuck(t *testing.T) {
	for _, c := range []struct {
		what        string
		s           *Sched
		length      int
		over, stuck bool
	}{
		{"none", New(), 0, true, false},
		{"a refused end", told(New(), call{"end", 1, 0}), 0, true, false},
		{"one", spawned(1), 1, false, false},
		{"one that ended", spawned(1, call{"end", 1, 0}), 1, true, false},
		{"one that is blocked", spawned(1, call{"set", 1, api.Blocked}), 1, false, true},
		{"one that waits", spawned(1, call{"set", 1, api.Waiting}), 1, false, true},
		{"one that joins", spawned(1, call{"join", 1, 1}), 1, false, true},
		{"one that is ready again", spawned(1, call{"set", 1, api.Waiting}, call{"set", 1, api.Ready}), 1, false, false},
		{"all", spawned(api.MaxThreads), 12, false, false},
		{"one too many", spawned(api.MaxThreads + 1), 12, false, false},
		{"the first ended", spawned(2, call{"end", 1, 0}), 2, false, false},
		{"the last ended", spawned(2, call{"end", 2, 0}), 2, false, false},
		{"both ended", spawned(2, call{"end", 2, 0}, call{"end", 1, 0}), 2, true, false},
		{"one behind those that ended", spawned(2, call{"end", 2, 0}, call{"end", 1, 0}, call{"spawn", 0, 0}), 3, false, false},
		{"ended, blocked", spawned(2, call{"end", 1, 0}, call{"set", 2, api.Blocked}), 2, false, true},
		{"waiting, ended", spawned(2, call{"set", 1, api.Waiting}, call{"end", 2, 0}), 2, false, true},
		{"blocked, ready", spawned(2, call{"set", 1, api.Blocked}), 2, false, false},
		{"ready, blocked", spawned(2, call{"set", 2, api.Blocked}), 2, false, false},
		{"joins what is blocked", spawned(2, call{"set", 2, api.Blocked}, call{"join", 1, 2}), 2, false, true},
		{"joined, which ended", spawned(2, call{"join", 1, 2}, call{"end", 2, 0}), 2, false, false},
		{"some of each", mixed(), 10, false, false},
		{"some of each, the ready ones ended", told(mixed(), call{"end", 2, 0}, call{"end", 1, 0}, call{"end", 5, 0}, call{"end", 10, 0}), 10, false, true},
	} {
		if got := c.s.Len(); got != c.length {
			t.Errorf("P14.2: %s: %d were begun, not %d", c.what, got, c.length)
		}
		if c.s.Over() != c.over || c.s.Stuck() != c.stuck {
			t.Errorf("P14.2: %s: over %t, stuck %t", c.what, c.s.Over(), c.s.Stuck())
		}
	}
}

// Threads that spawn, join only those behind them, and end: whatever is picked is ready, does its next thing, and all come to their end.
func TestWhatIsPickedIsReady(t *testing.T) {
	for seed := range 200 {
		r := rand.New(rand.NewSource(int64(seed)))
		s := spawned(1)
		var awaited [api.MaxThreads + 1][]int
		ended := 0
		for steps := 0; !s.Over(); steps++ {
			if steps > 1000 || s.Stuck() {
				t.Fatalf("P14.3: %s: %v", states(s), awaited)
			}
			id, ok := s.Pick(int(r.Uint64()))
			if !ok || s.State(id) != api.Ready || !slices.Contains(s.Ready(), id) {
				t.Fatalf("P14.3: %d, %t: %s", id, ok, states(s))
			}
			for _, other := range awaited[id] {
				if s.State(other) != api.Ended {
					t.Fatalf("P14.1: %d goes on, and %d hasn't ended: %s", id, other, states(s))
				}
			}
			switch other := id + 1 + r.Intn(api.MaxThreads); {
			case r.Intn(3) == 0 && s.Len() < api.MaxThreads:
				s.Spawn()
			case other <= s.Len():
				s.Join(id, other)
				awaited[id] = append(awaited[id], other)
			default:
				if _, err := s.End(id); err != api.OK {
					t.Fatalf("P14.3: End(%d): %d", id, err)
				}
				ended++
			}
		}
		if ended != s.Len() {
			t.Fatalf("P14.2: over, and %d of %d ended", ended, s.Len())
		}
	}
}
