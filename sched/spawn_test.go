package sched

import (
	"fmt"
	"slices"
	"testing"

	"loom/api"
)

// told: a Sched that was told these calls too.
func told(s *Sched, list ...call) *Sched {
	for _, c := range list {
		run(s, c)
	}
	return s
}

// spawned: one with so many threads, all ready, and then told these calls.
func spawned(count int, list ...call) *Sched {
	s := New()
	for range count {
		s.Spawn()
	}
	return told(s, list...)
}

// states: those of all threads, by number.
func states(s *Sched) string {
	text := ""
	for id := 1; id <= s.Len(); id++ {
		text += fmt.Sprint(s.State(id))
	}
	return text
}

// step: a call, what it answers, and all states behind it.
type step struct {
	call
	answer, states string
}

// walk: calls one behind the other.
func walk(t testing.TB, s *Sched, steps []step) {
	t.Helper()
	for n, w := range steps {
		if got := run(s, w.call); got != w.answer {
			t.Fatalf("P14.1: step %d: %v: %s, not %s", n, w.call, got, w.answer)
		}
		if got := states(s); got != w.states {
			t.Fatalf("P14.1: step %d: %v: the states are %s, not %s", n, w.call, got, w.states)
		}
	}
}

// stays: a call that is refused, and changes nothing: neither what is told at once nor what only a later call would tell.
func stays(t testing.TB, s *Sched, c call) {
	t.Helper()
	want := map[string]string{"spawn": "0 140", "set": "140", "join": "false 140", "end": "[] 140"}[c.name]
	kept, before := *s, tell(s)
	if got := run(s, c); got != want {
		t.Fatalf("P14.1: %v of %s: %s, not %s", c, before, got, want)
	}
	if *s != kept || tell(s) != before {
		t.Fatalf("P14.1: %v made of %s: %s", c, before, tell(s))
	}
}

// tell: all that a Sched tells of itself at once.
func tell(s *Sched) string {
	text := fmt.Sprint(states(s), s.Ready(), s.Len(), s.Over(), s.Stuck())
	for _, id := range numbers() {
		text += fmt.Sprint(s.State(id), ",")
	}
	for _, n := range picks() {
		id, ok := s.Pick(n)
		text += fmt.Sprint(id, ok, ",")
	}
	return text
}

// mixed: one with a thread in each state: 1 and 2 ready, 3 blocked, 4 waiting, 5 joins 1, 6 joins itself, 7 joins 3, 8 ended, 9 joins 6, 10 joins 1 and began to ahead of 5.
func mixed() *Sched {
	return spawned(10, call{"set", 3, api.Blocked}, call{"set", 4, api.Waiting}, call{"join", 10, 1}, call{"join", 5, 1}, call{"join", 6, 6}, call{"join", 7, 3}, call{"end", 8, 0}, call{"join", 9, 6})
}

const mixedStates = "1123444544"

func TestMixedIsAsItIsMeant(t *testing.T) {
	if got := states(mixed()); got != mixedStates {
		t.Fatalf("P14.1: %s", got)
	}
}

func TestSpawnUpToTheLimitAndOnceMore(t *testing.T) {
	s := New()
	want := ""
	for id := 1; id <= api.MaxThreads; id++ {
		want += "1"
		walk(t, s, []step{{call{"spawn", 0, 0}, fmt.Sprint(id, " 0"), want}})
	}
	if s.Len() != 12 {
		t.Fatalf("P14.2: %d", s.Len())
	}
	for range 3 {
		stays(t, s, call{"spawn", 0, 0})
	}
}

// The limit is how many were begun, whatever became of them.
func TestSpawnWhenSomeHaveEnded(t *testing.T) {
	s := spawned(3, call{"end", 2, 0})
	walk(t, s, []step{
		{call{"spawn", 0, 0}, "4 0", "1511"},
		{call{"end", 4, 0}, "[] 0", "1515"},
		{call{"spawn", 0, 0}, "5 0", "15151"},
	})
	s = spawned(api.MaxThreads)
	for id := 1; id <= api.MaxThreads; id++ {
		if _, err := s.End(id); err != api.OK {
			t.Fatalf("P14.1: %d: %d", id, err)
		}
		stays(t, s, call{"spawn", 0, 0})
	}
	if !s.Over() {
		t.Fatal("P14.2: not over")
	}
	s = New()
	for id := 1; id <= api.MaxThreads; id++ {
		if got, err := s.Spawn(); got != id || err != api.OK {
			t.Fatalf("P14.1: %d, %d, not %d", got, err, id)
		}
		s.End(id)
	}
	stays(t, s, call{"spawn", 0, 0})
}

// A new thread is ready whatever the others are, and they stay what they are.
func TestSpawnBesideOthers(t *testing.T) {
	walk(t, mixed(), []step{
		{call{"spawn", 0, 0}, "11 0", mixedStates + "1"},
		{call{"spawn", 0, 0}, "12 0", mixedStates + "11"},
		{call{"spawn", 0, 0}, "0 140", mixedStates + "11"},
		{call{"end", 1, 0}, "[5 10] 0", "512314454111"},
	})
	s := spawned(2, call{"set", 1, api.Blocked}, call{"join", 2, 2})
	if !s.Stuck() {
		t.Fatal("P14.2: not stuck")
	}
	s.Spawn()
	if s.Stuck() || !slices.Equal(s.Ready(), []int{3}) {
		t.Fatalf("P14.2: %v", s.Ready())
	}
}

func TestStateOfNone(t *testing.T) {
	for count := range api.MaxThreads + 1 {
		s := spawned(count)
		for _, id := range wrongs() {
			if got := s.State(id); got != 0 {
				t.Errorf("P14.1: %d threads: state %d of %d", count, got, id)
			}
		}
		for id := 1; id <= api.MaxThreads; id++ {
			want := api.Ready
			if id > count {
				want = 0
			}
			if got := s.State(id); got != want {
				t.Errorf("P14.1: %d threads: state %d of %d, not %d", count, got, id, want)
			}
		}
	}
}

func TestNumbersThatNoThreadHas(t *testing.T) {
	for _, s := range []*Sched{mixed(), New(), new(Sched), spawned(1), spawned(1, call{"end", 1, 0}), spawned(api.MaxThreads)} {
		ids := append(wrongs(), s.Len()+1)
		for _, id := range ids {
			for _, state := range []int{0, api.Ready, api.Blocked, api.Waiting, api.Joining, api.Ended, 6} {
				stays(t, s, call{"set", id, state})
			}
			for _, other := range append(ids, 1, 2, 3, 4, 5, 6, 7, 8) {
				stays(t, s, call{"join", id, other})
			}
			for one := range s.Len() {
				stays(t, s, call{"join", one + 1, id})
			}
			stays(t, s, call{"end", id, 0})
		}
	}
}
