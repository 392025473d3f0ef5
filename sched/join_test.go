package sched

import (
	"fmt"
	"slices"
	"testing"

	"loom/api"
)

// Each thread that is there, of each one that is there: only who is ready joins, and only an end is there already.
func TestJoinOfEachByEach(t *testing.T) {
	for id := 1; id <= 10; id++ {
		for other := 1; other <= 10; other++ {
			s := mixed()
			if id > 2 {
				stays(t, s, call{"join", id, other})
				continue
			}
			if other == 8 {
				walk(t, s, []step{{call{"join", id, other}, "true 0", mixedStates}})
				continue
			}
			want := []byte(mixedStates)
			want[id-1] = '4'
			walk(t, s, []step{{call{"join", id, other}, "false 0", string(want)}})
		}
	}
}

func TestJoinOfOneThatIsReady(t *testing.T) {
	walk(t, spawned(3), []step{
		{call{"join", 1, 3}, "false 0", "411"},
		{call{"join", 1, 3}, "false 140", "411"},
		{call{"join", 1, 2}, "false 140", "411"},
		{call{"end", 2, 0}, "[] 0", "451"},
		{call{"end", 3, 0}, "[1] 0", "155"},
		{call{"join", 1, 3}, "true 0", "155"},
		{call{"join", 1, 2}, "true 0", "155"},
		{call{"end", 1, 0}, "[] 0", "555"},
		{call{"join", 1, 2}, "false 140", "555"},
	})
}

// One that is blocked, waiting or joining frees those that join it when it has come to its end.
func TestJoinOfOneThatIsNotReady(t *testing.T) {
	for _, state := range []int{api.Blocked, api.Waiting} {
		now := fmt.Sprint(state)
		walk(t, spawned(2, call{"set", 2, state}), []step{
			{call{"join", 1, 2}, "false 0", "4" + now},
			{call{"end", 2, 0}, "[] 140", "4" + now},
			{call{"set", 2, api.Ready}, "0", "41"},
			{call{"end", 2, 0}, "[1] 0", "15"},
		})
	}
	walk(t, spawned(3), []step{
		{call{"join", 2, 3}, "false 0", "141"},
		{call{"join", 1, 2}, "false 0", "441"},
		{call{"end", 3, 0}, "[2] 0", "415"},
		{call{"end", 2, 0}, "[1] 0", "155"},
	})
}

// Nobody ends that joins itself, nor two that join one another.
func TestJoinInARing(t *testing.T) {
	s := spawned(1)
	walk(t, s, []step{{call{"join", 1, 1}, "false 0", "4"}})
	stays(t, s, call{"end", 1, 0})
	stays(t, s, call{"set", 1, api.Ready})
	stays(t, s, call{"join", 1, 1})
	if !s.Stuck() || s.Over() {
		t.Error("P14.2: a ring isn't stuck")
	}
	s = spawned(3)
	walk(t, s, []step{
		{call{"join", 1, 2}, "false 0", "411"},
		{call{"join", 2, 1}, "false 0", "441"},
		{call{"end", 3, 0}, "[] 0", "445"},
	})
	if !s.Stuck() || s.Over() {
		t.Error("P14.2: a ring isn't stuck")
	}
}

// An end stays, however many calls ago it was.
func TestJoinOfOneThatEndedLongAgo(t *testing.T) {
	s := spawned(4, call{"end", 2, 0})
	for n := range 1000 {
		id := 1 + 2*(n%2)
		if ended, err := s.Join(id, 2); !ended || err != api.OK {
			t.Fatalf("P14.1: %t, %d", ended, err)
		}
		s.Set(4, api.Blocked)
		s.Set(4, api.Ready)
	}
	walk(t, s, []step{
		{call{"spawn", 0, 0}, "5 0", "15111"},
		{call{"join", 5, 2}, "true 0", "15111"},
		{call{"end", 5, 0}, "[] 0", "15115"},
		{call{"join", 1, 5}, "true 0", "15115"},
	})
}

func TestEndOfEach(t *testing.T) {
	for _, id := range []int{3, 4, 5, 6, 7, 8, 9, 10} {
		stays(t, mixed(), call{"end", id, 0})
	}
	walk(t, mixed(), []step{{call{"end", 1, 0}, "[5 10] 0", "5123144541"}})
	walk(t, mixed(), []step{{call{"end", 2, 0}, "[] 0", "1523444544"}})
	s := mixed()
	walk(t, s, []step{{call{"end", 1, 0}, "[5 10] 0", "5123144541"}})
	stays(t, s, call{"end", 1, 0})
	// Who was freed joins and ends again, and what it joined before frees nobody once more.
	walk(t, s, []step{
		{call{"join", 5, 2}, "false 0", "5123444541"},
		{call{"join", 10, 5}, "false 0", "5123444544"},
		{call{"end", 2, 0}, "[5] 0", "5523144544"},
		{call{"end", 5, 0}, "[10] 0", "5523544541"},
		{call{"end", 10, 0}, "[] 0", "5523544545"},
	})
}

// In whatever order they began to join, they are told rising; those that join another one aren't, nor those that do nothing of the kind.
func TestWhoIsReadyBehindAnEnd(t *testing.T) {
	for end := 1; end <= api.MaxThreads; end++ {
		for from := range api.MaxThreads {
			for few := 0; few <= api.MaxThreads; few += 3 {
				s := spawned(api.MaxThreads)
				other := end%api.MaxThreads + 1
				var want []int
				for n := range api.MaxThreads {
					id := (from+7*n)%api.MaxThreads + 1
					if id == end || id == other {
						continue
					}
					if n < few {
						s.Join(id, end)
						want = append(want, id)
					} else if n%2 == 0 {
						s.Join(id, other)
					}
				}
				slices.Sort(want)
				before := s.Ready()
				freed, err := s.End(end)
				if err != api.OK || !slices.Equal(freed, want) {
					t.Fatalf("P14.1: End(%d): %v, %d, not %v", end, freed, err, want)
				}
				all := slices.Concat(slices.DeleteFunc(before, func(id int) bool { return id == end }), want)
				slices.Sort(all)
				if got := s.Ready(); !slices.Equal(got, all) {
					t.Fatalf("P14.1: behind End(%d): %v, not %v", end, got, all)
				}
			}
		}
	}
}
