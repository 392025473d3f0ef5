package monitor

import (
	"fmt"
	"math"
	"slices"
	"testing"

	"loom/api"
)

func TestLockOfWhatWasNeverEntered(t *testing.T) {
	for _, m := range []*Table{New(), new(Table), full()} {
		for _, at := range append(wrongs(), 7, 8, 70, 1<<32+1, 1<<32+3, math.MaxInt-1, math.MaxInt) {
			l := m.Lock(at)
			if l.Owner != 0 || l.Count != 0 || l.Fat || len(l.Entry) != 0 || len(l.Wait) != 0 {
				t.Errorf("P13.3: lock %d: %s", at, say(l))
			}
		}
	}
}

// Asking isn't entering.
func TestAskingChangesNothing(t *testing.T) {
	for _, m := range []*Table{New(), new(Table), full()} {
		before := text(m)
		for _, n := range append(append(wrongs(), rights()...), fullThreads()...) {
			m.Lock(n)
			m.Held(n)
		}
		if got := text(m); got != before {
			t.Errorf("P13.3: of %s: %s", before, got)
		}
	}
}

func TestLockOfAFreeOne(t *testing.T) {
	for count := 1; count <= 6; count++ {
		m := New()
		for range count {
			m.Enter(4, 2)
		}
		for range count {
			m.Exit(4, 2)
		}
		want := never
		if count > 3 {
			want = "0 0 fat [] []"
		}
		if got := say(m.Lock(4)); got != want {
			t.Errorf("P13.3: taken %d times: %s, not %s", count, got, want)
		}
	}
	// Fat by who stood in line, and by who waited.
	for _, m := range []*Table{
		after(call{"enter", 4, 2}, call{"enter", 4, 3}, call{"exit", 4, 2}, call{"exit", 4, 3}),
		after(call{"enter", 4, 2}, call{"wait", 4, 2}, call{"enter", 4, 3}, call{"notify", 4, 3}, call{"exit", 4, 3}, call{"exit", 4, 2}),
	} {
		walk(t, m, "P13.3", []step{
			{call{"exit", 4, 2}, "0 130", "0 0 fat [] []"},
			{call{"enter", 4, 9}, "true 0", "9 1 fat [] []"},
			{call{"exit", 4, 9}, "0 0", "0 0 fat [] []"},
		})
	}
}

// A lock is Fat by what was done with it, not with others.
func TestFatIsOfOneLock(t *testing.T) {
	m := full()
	walk(t, m, "P13.3", []step{
		{call{"enter", 7, 20}, "true 0", "20 1 thin [] []"},
		{call{"enter", 8, 30}, "true 0", "30 1 thin [] []"},
		{call{"enter", 1, 10}, "true 0", "10 3 thin [] []"},
		{call{"exit", 7, 20}, "0 0", never},
	})
}

func TestHeldOfNone(t *testing.T) {
	for _, m := range []*Table{New(), new(Table), full()} {
		for _, thread := range append(wrongs(), 1, 2, 31, 32, 40, 41, 50, 60, 61, 99, math.MaxInt, 1<<32+10) {
			if got := m.Held(thread); len(got) != 0 {
				t.Errorf("P13.3: thread %d has %v", thread, got)
			}
		}
	}
}

func TestHeldOfOne(t *testing.T) {
	m := full()
	for thread, at := range map[int]int{10: 1, 20: 2, 30: 3, 42: 4} {
		if got := m.Held(thread); !slices.Equal(got, []int{at}) {
			t.Errorf("P13.3: thread %d has %v, not %d", thread, got, at)
		}
	}
}

// Of many, taken in an order that doesn't rise, with those of others between.
func TestHeldOfMany(t *testing.T) {
	m := New()
	all := rights()
	for n := range all {
		at := all[(n*5+3)%len(all)]
		m.Enter(at, 1+at%3)
		m.Enter(at, 1+at%3)
	}
	for thread := 1; thread <= 3; thread++ {
		var want []int
		for _, at := range all {
			if 1+at%3 == thread {
				want = append(want, at)
			}
		}
		if got := m.Held(thread); !slices.Equal(got, want) || len(want) < 3 {
			t.Errorf("P13.3: thread %d has %v, not %v", thread, got, want)
		}
	}
}

func TestHeldRisesAndFalls(t *testing.T) {
	m := New()
	var want []int
	held := func() {
		t.Helper()
		slices.Sort(want)
		if got := m.Held(7); !slices.Equal(got, want) {
			t.Fatalf("P13.3: %v, not %v", got, want)
		}
	}
	for n := range 300 {
		at := 1 + n*77%300
		m.Enter(at, 7)
		m.Enter(1000+at, 8)
		want = append(want, at)
		held()
	}
	for n := range 300 {
		at := 1 + n*131%300
		m.Exit(at, 7)
		want = slices.DeleteFunc(want, func(one int) bool { return one == at })
		held()
	}
}

// What is handed over is held by who has it now, what is waited for by nobody.
func TestHeldBehindHandingOver(t *testing.T) {
	m := after(call{"enter", 5, 1}, call{"enter", 2, 1}, call{"enter", 9, 2}, call{"enter", 5, 2})
	for n, s := range []struct {
		call
		want string
	}{
		{call{"notify", 5, 1}, "[2 5] [9]"},
		{call{"wait", 2, 1}, "[5] [9]"},
		{call{"exit", 5, 1}, "[] [5 9]"},
		{call{"enter", 2, 2}, "[] [2 5 9]"},
		{call{"all", 2, 2}, "[] [2 5 9]"},
		{call{"exit", 9, 2}, "[] [2 5]"},
		{call{"wait", 2, 2}, "[2] [5]"},
		{call{"enter", 7, 1}, "[2 7] [5]"},
	} {
		run(m, s.call)
		if got := fmt.Sprint(m.Held(1), m.Held(2)); got != s.want {
			t.Fatalf("P13.3: step %d: %v: %s, not %s", n, s.call, got, s.want)
		}
	}
}

func TestForget(t *testing.T) {
	m := full()
	for at, want := range map[int]string{1: "130", 2: "130", 3: "130", 4: "130", 5: "130"} {
		stays(t, m, "P13.3", call{"forget", at, 0}, want)
	}
	for _, at := range append(wrongs(), 7, 70, math.MaxInt) {
		stays(t, m, "P13.3", call{"forget", at, 0}, "0")
	}
	if got := say(m.Lock(6)); got != "0 0 fat [] []" {
		t.Fatalf("P13.3: %s", got)
	}
	walk(t, m, "P13.3", []step{
		{call{"forget", 6, 0}, "0", never},
		{call{"forget", 6, 0}, "0", never},
		{call{"exit", 6, 60}, "0 130", never},
		{call{"enter", 6, 60}, "true 0", "60 1 thin [] []"},
		{call{"enter", 6, 60}, "true 0", "60 2 thin [] []"},
		{call{"enter", 6, 60}, "true 0", "60 3 thin [] []"},
		{call{"forget", 6, 0}, "130", "60 3 thin [] []"},
		{call{"enter", 6, 61}, "false 0", "60 3 fat [61] []"},
		{call{"forget", 6, 0}, "130", "60 3 fat [61] []"},
	})
	for at := 1; at < 6; at++ {
		if m.Forget(at) != api.ErrOwner {
			t.Errorf("P13.3: lock %d was forgotten", at)
		}
	}
}

// Each of a lock's ways to be not forgotten, one by one, and then it is.
func TestForgetWhatSomebodyWaitsFor(t *testing.T) {
	walk(t, New(), "P13.3", []step{
		{call{"enter", 1, 5}, "true 0", "5 1 thin [] []"},
		{call{"forget", 1, 0}, "130", "5 1 thin [] []"},
		{call{"wait", 1, 5}, "0 0", "0 0 fat [] [5]"},
		{call{"forget", 1, 0}, "130", "0 0 fat [] [5]"},
		{call{"enter", 1, 6}, "true 0", "6 1 fat [] [5]"},
		{call{"forget", 1, 0}, "130", "6 1 fat [] [5]"},
		{call{"notify", 1, 6}, "1 0", "6 1 fat [5] []"},
		{call{"forget", 1, 0}, "130", "6 1 fat [5] []"},
		{call{"exit", 1, 6}, "5 0", "5 1 fat [] []"},
		{call{"forget", 1, 0}, "130", "5 1 fat [] []"},
		{call{"exit", 1, 5}, "0 0", "0 0 fat [] []"},
		{call{"forget", 1, 0}, "0", never},
	})
}

func TestForgetOfAFreeThinLock(t *testing.T) {
	for _, m := range []*Table{New(), new(Table), after(call{"enter", 1, 5}, call{"exit", 1, 5})} {
		walk(t, m, "P13.3", []step{
			{call{"forget", 1, 0}, "0", never},
			{call{"enter", 1, 6}, "true 0", "6 1 thin [] []"},
		})
	}
}

// One lock is forgotten, and none beside it.
func TestForgetOfOneAmongMany(t *testing.T) {
	m := New()
	for _, at := range rights() {
		m.Enter(at, 1)
		m.Wait(at, 1)
		m.Enter(at, 2)
		m.Notify(at, 2, false)
		m.Exit(at, 2)
		m.Exit(at, 1)
	}
	for n, at := range rights() {
		if m.Forget(at) != api.OK || say(m.Lock(at)) != never {
			t.Fatalf("P13.3: lock %d: %s", at, say(m.Lock(at)))
		}
		for _, other := range rights()[n+1:] {
			if got := say(m.Lock(other)); got != "0 0 fat [] []" {
				t.Fatalf("P13.3: lock %d is forgotten, and %d is %s", at, other, got)
			}
		}
	}
}

// What tells nothing any more takes no room: a table is as great as what is taken, waited for or Fat.
func TestNothingIsKeptOfThinLocks(t *testing.T) {
	m := New()
	for at := 1; at <= 1000; at++ {
		m.Enter(at, at)
		m.Enter(at, at)
		m.Exit(at, at)
		m.Exit(at, at)
	}
	for thread := 1; thread <= 1000; thread++ {
		m.Enter(5, 2000)
		m.Enter(5, thread)
		m.Exit(5, 2000)
		m.Exit(5, thread)
	}
	if len(m.locks) != 1 || len(m.stands) != 0 {
		t.Errorf("%d locks and %d threads are kept", len(m.locks), len(m.stands))
	}
	m.Forget(5)
	if len(m.locks) != 0 {
		t.Errorf("%d locks are kept", len(m.locks))
	}
}
