package monitor

import (
	"fmt"
	"math"
	"slices"
	"testing"

	"loom/api"
)

func TestWaitWithNobodyInEntry(t *testing.T) {
	walk(t, New(), "P13.2", []step{
		{call{"enter", 3, 1}, "true 0", "1 1 thin [] []"},
		{call{"wait", 3, 1}, "0 0", "0 0 fat [] [1]"},
		{call{"wait", 3, 1}, "0 130", "0 0 fat [] [1]"},
		{call{"exit", 3, 1}, "0 130", "0 0 fat [] [1]"},
		{call{"enter", 3, 1}, "false 130", "0 0 fat [] [1]"},
		{call{"enter", 3, 2}, "true 0", "2 1 fat [] [1]"},
		{call{"exit", 3, 2}, "0 0", "0 0 fat [] [1]"},
		{call{"enter", 3, 2}, "true 0", "2 1 fat [] [1]"},
		{call{"wait", 3, 2}, "0 0", "0 0 fat [] [1 2]"},
	})
}

func TestWaitWithSomeInEntry(t *testing.T) {
	walk(t, New(), "P13.2", []step{
		{call{"enter", 3, 1}, "true 0", "1 1 thin [] []"},
		{call{"enter", 3, 9}, "false 0", "1 1 fat [9] []"},
		{call{"enter", 3, 2}, "false 0", "1 1 fat [9 2] []"},
		{call{"wait", 3, 1}, "9 0", "9 1 fat [2] [1]"},
		{call{"wait", 3, 9}, "2 0", "2 1 fat [] [1 9]"},
		{call{"wait", 3, 2}, "0 0", "0 0 fat [] [1 9 2]"},
	})
}

// However often it was taken, above Thin too: it is let go whole, and had back whole.
func TestTheCountIsKept(t *testing.T) {
	for count := 1; count <= 3*api.Thin; count++ {
		for _, others := range []int{0, 1, 4} {
			m := New()
			for range count {
				m.Enter(3, 1)
			}
			for n := range others {
				m.Enter(3, 10+n)
			}
			m.Wait(3, 1)
			if others == 0 {
				m.Enter(3, 10)
			}
			if l := m.Lock(3); l.Owner != 10 || l.Count != 1 || !l.Fat {
				t.Fatalf("P13.2: %d times, %d others: %s", count, others, say(l))
			}
			// The one that notifies has a count of its own.
			m.Enter(3, 10)
			run(m, call{"notify", 3, 10})
			for n := range max(others, 1) {
				for m.Lock(3).Owner == 10+n {
					m.Exit(3, 10+n)
				}
			}
			if got, want := say(m.Lock(3)), fmt.Sprintf("1 %d fat [] []", count); got != want {
				t.Fatalf("P13.1: %d times, %d others: %s, not %s", count, others, got, want)
			}
			for left := count - 1; left > 0; left-- {
				walk(t, m, "P13.1", []step{{call{"exit", 3, 1}, "0 0", fmt.Sprintf("1 %d fat [] []", left)}})
			}
			walk(t, m, "P13.1", []step{{call{"exit", 3, 1}, "0 0", "0 0 fat [] []"}})
			// What was kept once isn't had again.
			walk(t, m, "P13.1", []step{
				{call{"enter", 3, 2}, "true 0", "2 1 fat [] []"},
				{call{"enter", 3, 1}, "false 0", "2 1 fat [1] []"},
				{call{"exit", 3, 2}, "1 0", "1 1 fat [] []"},
			})
		}
	}
}

func TestCountsOfSeveralThatWait(t *testing.T) {
	m := New()
	for thread := 1; thread <= 6; thread++ {
		for range 7 - thread {
			m.Enter(3, thread)
		}
		m.Wait(3, thread)
	}
	m.Enter(3, 9)
	m.Enter(3, 8)
	walk(t, m, "P13.2", []step{
		{call{"all", 3, 9}, "6 0", "9 1 fat [8 1 2 3 4 5 6] []"},
		{call{"exit", 3, 9}, "8 0", "8 1 fat [1 2 3 4 5 6] []"},
		{call{"exit", 3, 8}, "1 0", "1 6 fat [2 3 4 5 6] []"},
		{call{"wait", 3, 1}, "2 0", "2 5 fat [3 4 5 6] [1]"},
		{call{"exit", 3, 2}, "0 0", "2 4 fat [3 4 5 6] [1]"},
		{call{"wait", 3, 2}, "3 0", "3 4 fat [4 5 6] [1 2]"},
		{call{"notify", 3, 3}, "1 0", "3 4 fat [4 5 6 1] [2]"},
		{call{"wait", 3, 3}, "4 0", "4 3 fat [5 6 1] [2 3]"},
		{call{"wait", 3, 4}, "5 0", "5 2 fat [6 1] [2 3 4]"},
		{call{"all", 3, 5}, "3 0", "5 2 fat [6 1 2 3 4] []"},
		{call{"wait", 3, 5}, "6 0", "6 1 fat [1 2 3 4] [5]"},
		{call{"exit", 3, 6}, "1 0", "1 6 fat [2 3 4] [5]"},
		{call{"wait", 3, 1}, "2 0", "2 4 fat [3 4] [5 1]"},
		{call{"wait", 3, 2}, "3 0", "3 4 fat [4] [5 1 2]"},
		{call{"wait", 3, 3}, "4 0", "4 3 fat [] [5 1 2 3]"},
		{call{"wait", 3, 4}, "0 0", "0 0 fat [] [5 1 2 3 4]"},
	})
}

func TestNotifyWithNobodyInWait(t *testing.T) {
	for _, name := range []string{"notify", "all"} {
		m := New()
		walk(t, m, "P13.2", []step{
			{call{"enter", 3, 1}, "true 0", "1 1 thin [] []"},
			{call{name, 3, 1}, "0 0", "1 1 thin [] []"},
			{call{"enter", 3, 1}, "true 0", "1 2 thin [] []"},
			{call{name, 3, 1}, "0 0", "1 2 thin [] []"},
			{call{"enter", 3, 2}, "false 0", "1 2 fat [2] []"},
			{call{name, 3, 1}, "0 0", "1 2 fat [2] []"},
			{call{"exit", 3, 1}, "0 0", "1 1 fat [2] []"},
			{call{"exit", 3, 1}, "2 0", "2 1 fat [] []"},
		})
	}
}

// A notify tells those who wait, not those who will.
func TestANotifyIsNotKept(t *testing.T) {
	for _, name := range []string{"notify", "all"} {
		walk(t, New(), "P13.2", []step{
			{call{"enter", 3, 1}, "true 0", "1 1 thin [] []"},
			{call{name, 3, 1}, "0 0", "1 1 thin [] []"},
			{call{"wait", 3, 1}, "0 0", "0 0 fat [] [1]"},
			{call{"enter", 3, 2}, "true 0", "2 1 fat [] [1]"},
		})
	}
}

func TestNotifyOfOne(t *testing.T) {
	m := after(call{"enter", 3, 5}, call{"wait", 3, 5}, call{"enter", 3, 2}, call{"wait", 3, 2}, call{"enter", 3, 7}, call{"wait", 3, 7}, call{"enter", 3, 1}, call{"enter", 3, 9})
	walk(t, m, "P13.2", []step{
		{call{"notify", 3, 1}, "1 0", "1 1 fat [9 5] [2 7]"},
		{call{"enter", 3, 4}, "false 0", "1 1 fat [9 5 4] [2 7]"},
		{call{"notify", 3, 1}, "1 0", "1 1 fat [9 5 4 2] [7]"},
		{call{"notify", 3, 1}, "1 0", "1 1 fat [9 5 4 2 7] []"},
		{call{"notify", 3, 1}, "0 0", "1 1 fat [9 5 4 2 7] []"},
		{call{"exit", 3, 1}, "9 0", "9 1 fat [5 4 2 7] []"},
		{call{"exit", 3, 9}, "5 0", "5 1 fat [4 2 7] []"},
		{call{"wait", 3, 5}, "4 0", "4 1 fat [2 7] [5]"},
	})
}

func TestNotifyOfAll(t *testing.T) {
	for count := range 9 {
		m := New()
		var want []int
		for n := range count {
			m.Enter(3, 20-n)
			m.Wait(3, 20-n)
			want = append(want, 20-n)
		}
		m.Enter(3, 1)
		m.Enter(3, 2)
		walk(t, m, "P13.2", []step{
			{call{"all", 3, 1}, fmt.Sprint(count, " 0"), say(api.Lock{Owner: 1, Count: 1, Fat: true, Entry: append([]int{2}, want...)})},
			{call{"all", 3, 1}, "0 0", say(api.Lock{Owner: 1, Count: 1, Fat: true, Entry: append([]int{2}, want...)})},
			{call{"exit", 3, 1}, "2 0", say(api.Lock{Owner: 2, Count: 1, Fat: true, Entry: want})},
		})
	}
}

func TestWaitAndNotifyOfWhoIsNotTheOwner(t *testing.T) {
	owners := map[int]int{1: 10, 2: 20, 3: 30, 4: 42}
	for _, m := range []*Table{full(), New(), new(Table)} {
		for _, thread := range fullThreads() {
			for _, at := range []int{1, 2, 3, 4, 5, 6, 7, math.MaxInt} {
				if m.Lock(at).Owner != 0 && owners[at] == thread {
					continue
				}
				for _, name := range []string{"wait", "notify", "all"} {
					stays(t, m, "P13.2", call{name, at, thread}, "0 130")
				}
			}
		}
	}
	// Who had it once, or will have it, or has another one.
	m := after(call{"enter", 1, 5}, call{"enter", 2, 6}, call{"enter", 1, 7}, call{"exit", 1, 5}, call{"enter", 1, 8})
	for _, thread := range []int{5, 6, 8} {
		for _, name := range []string{"exit", "wait", "notify", "all"} {
			stays(t, m, "P13.2", call{name, 1, thread}, "0 130")
		}
	}
}

// The locks of one thread: a wait lets go of one alone.
func TestWaitLetsGoOfOneLock(t *testing.T) {
	m := after(call{"enter", 1, 5}, call{"enter", 2, 5}, call{"enter", 2, 5}, call{"enter", 3, 5}, call{"enter", 1, 6}, call{"enter", 2, 7}, call{"enter", 3, 8})
	walk(t, m, "P13.2", []step{{call{"wait", 2, 5}, "7 0", "7 1 fat [] [5]"}})
	if got := fmt.Sprint(say(m.Lock(1)), "; ", say(m.Lock(3)), m.Held(5)); got != "5 1 fat [6] []; 5 1 fat [8] [][1 3]" {
		t.Errorf("P13.2: %s", got)
	}
}

// The words say of Wait and Notify, too, that the owner alone is asked for: what one that stands elsewhere keeps is kept lock by lock.
func TestWaitOfAnOwnerThatStands(t *testing.T) {
	m := after(call{"enter", 3, 9}, call{"enter", 1, 5}, call{"enter", 1, 5}, call{"enter", 2, 5}, call{"enter", 2, 5}, call{"enter", 2, 5}, call{"enter", 3, 5})
	walk(t, m, "P13.2", []step{
		{call{"all", 1, 5}, "0 0", "5 2 thin [] []"},
		{call{"wait", 1, 5}, "0 0", "0 0 fat [] [5]"},
		{call{"wait", 2, 5}, "0 0", "0 0 fat [] [5]"},
		{call{"enter", 1, 8}, "true 0", "8 1 fat [] [5]"},
		{call{"enter", 2, 8}, "true 0", "8 1 fat [] [5]"},
		{call{"exit", 3, 9}, "5 0", "5 1 fat [] []"},
		{call{"enter", 4, 5}, "false 130", never},
		{call{"notify", 2, 8}, "1 0", "8 1 fat [5] []"},
		{call{"exit", 2, 8}, "5 0", "5 3 fat [] []"},
		{call{"enter", 4, 5}, "false 130", never},
		{call{"notify", 1, 8}, "1 0", "8 1 fat [5] []"},
		{call{"exit", 1, 8}, "5 0", "5 2 fat [] []"},
		{call{"enter", 4, 5}, "true 0", "5 1 thin [] []"},
	})
	if got := m.Held(5); !slices.Equal(got, []int{1, 2, 3, 4}) {
		t.Errorf("P13.3: %v", got)
	}
}
