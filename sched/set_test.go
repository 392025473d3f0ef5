package sched

import (
	"math"
	"testing"

	"loom/api"
)

func TestSetThereAndBack(t *testing.T) {
	walk(t, spawned(3), []step{
		{call{"set", 2, api.Blocked}, "0", "121"},
		{call{"set", 2, api.Waiting}, "0", "131"},
		{call{"set", 2, api.Blocked}, "0", "121"},
		{call{"set", 2, api.Ready}, "0", "111"},
		{call{"set", 2, api.Waiting}, "0", "131"},
		{call{"set", 2, api.Ready}, "0", "111"},
		{call{"set", 1, api.Waiting}, "0", "311"},
		{call{"set", 3, api.Blocked}, "0", "312"},
		{call{"set", 2, api.Ready}, "0", "312"},
		{call{"set", 1, api.Waiting}, "0", "312"},
		{call{"set", 3, api.Blocked}, "0", "312"},
	})
}

// From each of the three to each of the three, of each thread, beside all others.
func TestSetFromEachToEach(t *testing.T) {
	three := []int{api.Ready, api.Blocked, api.Waiting}
	for id := 1; id <= api.MaxThreads; id++ {
		for _, from := range three {
			for _, to := range three {
				s := spawned(api.MaxThreads, call{"set", id, from})
				if err := s.Set(id, to); err != api.OK {
					t.Fatalf("P14.1: %d from %d to %d: %d", id, from, to, err)
				}
				for one := 1; one <= api.MaxThreads; one++ {
					want := api.Ready
					if one == id {
						want = to
					}
					if got := s.State(one); got != want {
						t.Fatalf("P14.1: %d from %d to %d: %d's state is %d", id, from, to, one, got)
					}
				}
			}
		}
	}
}

func TestSetToWhatMayNotBeSet(t *testing.T) {
	s := mixed()
	for _, state := range []int{api.Joining, api.Ended, 0, -1, -2, -3, 6, 7, 257, 258, 1<<32 + 1, 1<<32 + 2, -1<<32 + 1, math.MinInt, math.MinInt + 1, math.MinInt + 2, math.MaxInt} {
		for id := 1; id <= s.Len(); id++ {
			stays(t, s, call{"set", id, state})
		}
	}
}

func TestSetOfOneThatHasEndedOrIsJoining(t *testing.T) {
	s := mixed()
	for _, id := range []int{5, 6, 7, 8, 9, 10} {
		for state := -1; state <= 6; state++ {
			stays(t, s, call{"set", id, state})
		}
	}
	// What they wait for still frees them.
	walk(t, s, []step{
		{call{"set", 3, api.Ready}, "0", "1113444544"},
		{call{"end", 3, 0}, "[7] 0", "1153441544"},
		{call{"set", 7, api.Blocked}, "0", "1153442544"},
		{call{"set", 3, api.Ready}, "140", "1153442544"},
		{call{"end", 1, 0}, "[5 10] 0", "5153142541"},
		{call{"set", 5, api.Waiting}, "0", "5153342541"},
		{call{"set", 10, api.Blocked}, "0", "5153342542"},
	})
}
