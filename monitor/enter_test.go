package monitor

import (
	"fmt"
	"math"
	"testing"

	"loom/api"
)

// wrongs: what is no object's address, and no thread's number.
func wrongs() []int {
	return []int{0, -1, -2, -7, math.MinInt32, -1 << 32, -1<<32 + 1, math.MinInt, math.MinInt + 1, math.MinInt + 7}
}

// rights: numbers that a table may not mix up.
func rights() []int {
	return []int{1, 2, 3, 7, 255, 256, 257, 1<<16 + 1, math.MaxInt32, 1 << 31, 1<<32 - 1, 1 << 32, 1<<32 + 1, 1 << 62, 1<<62 + 1, math.MaxInt - 1, math.MaxInt}
}

// step: a call, what it answers, and its lock behind it.
type step struct {
	call
	answer, lock string
}

// walk: calls one behind the other.
func walk(t testing.TB, m *Table, promise string, steps []step) {
	t.Helper()
	for n, s := range steps {
		if got := run(m, s.call); got != s.answer {
			t.Fatalf("%s: step %d: %v: %s, not %s", promise, n, s.call, got, s.answer)
		}
		if got := say(m.Lock(s.at)); got != s.lock {
			t.Fatalf("%s: step %d: %v: the lock is %s, not %s", promise, n, s.call, got, s.lock)
		}
	}
}

// after: a table that was told these calls.
func after(list ...call) *Table {
	m := New()
	for _, c := range list {
		run(m, c)
	}
	return m
}

func TestTheExample(t *testing.T) {
	walk(t, New(), "P13.1", []step{
		{call{"enter", 1, 7}, "true 0", "7 1 thin [] []"},
		{call{"enter", 1, 8}, "false 0", "7 1 fat [8] []"},
		{call{"exit", 1, 7}, "8 0", "8 1 fat [] []"},
	})
}

func TestEnterOfAFreeLock(t *testing.T) {
	for _, at := range rights() {
		for _, thread := range rights() {
			m := New()
			walk(t, m, "P13.1", []step{
				{call{"enter", at, thread}, "true 0", say(api.Lock{Owner: thread, Count: 1})},
				{call{"exit", at, thread}, "0 0", never},
				{call{"enter", at, thread}, "true 0", say(api.Lock{Owner: thread, Count: 1})},
			})
		}
	}
}

func TestEnterOfOnesOwn(t *testing.T) {
	walk(t, New(), "P13.1", []step{
		{call{"enter", 5, 7}, "true 0", "7 1 thin [] []"},
		{call{"enter", 5, 7}, "true 0", "7 2 thin [] []"},
		{call{"enter", 5, 7}, "true 0", "7 3 thin [] []"},
		{call{"exit", 5, 7}, "0 0", "7 2 thin [] []"},
		{call{"enter", 5, 7}, "true 0", "7 3 thin [] []"},
		{call{"enter", 5, 7}, "true 0", "7 4 fat [] []"},
		{call{"enter", 5, 7}, "true 0", "7 5 fat [] []"},
		{call{"exit", 5, 7}, "0 0", "7 4 fat [] []"},
		{call{"exit", 5, 7}, "0 0", "7 3 fat [] []"},
		{call{"exit", 5, 7}, "0 0", "7 2 fat [] []"},
		{call{"exit", 5, 7}, "0 0", "7 1 fat [] []"},
		{call{"exit", 5, 7}, "0 0", "0 0 fat [] []"},
		{call{"enter", 5, 8}, "true 0", "8 1 fat [] []"},
	})
}

// As often as the limit, by several owners one behind the other: no count is left of an earlier one.
func TestThinIsOfOneOwner(t *testing.T) {
	m := New()
	for thread := 1; thread <= 9; thread++ {
		for count := 1; count <= api.Thin; count++ {
			walk(t, m, "P13.1", []step{{call{"enter", 5, thread}, "true 0", say(api.Lock{Owner: thread, Count: count})}})
		}
		for count := api.Thin - 1; count > 0; count-- {
			walk(t, m, "P13.1", []step{{call{"exit", 5, thread}, "0 0", say(api.Lock{Owner: thread, Count: count})}})
		}
		walk(t, m, "P13.1", []step{{call{"exit", 5, thread}, "0 0", never}})
	}
}

func TestEnterManyTimes(t *testing.T) {
	m := New()
	const times = 100000
	for count := 1; count <= times; count++ {
		if had, err := m.Enter(3, 4); !had || err != api.OK {
			t.Fatalf("P13.1: %d: %t, %d", count, had, err)
		}
	}
	walk(t, m, "P13.1", []step{{call{"enter", 3, 5}, "false 0", "4 100000 fat [5] []"}})
	for count := times - 1; count > 0; count-- {
		if who, err := m.Exit(3, 4); who != 0 || err != api.OK || m.Lock(3).Count != count {
			t.Fatalf("P13.1: %d: %d, %d: %s", count, who, err, say(m.Lock(3)))
		}
	}
	walk(t, m, "P13.1", []step{{call{"exit", 3, 4}, "5 0", "5 1 fat [] []"}})
}

func TestEnterOfAnothers(t *testing.T) {
	walk(t, New(), "P13.1", []step{
		{call{"enter", 2, 9}, "true 0", "9 1 thin [] []"},
		{call{"enter", 2, 4}, "false 0", "9 1 fat [4] []"},
		{call{"enter", 2, 6}, "false 0", "9 1 fat [4 6] []"},
		{call{"enter", 2, 1}, "false 0", "9 1 fat [4 6 1] []"},
		{call{"enter", 2, 9}, "true 0", "9 2 fat [4 6 1] []"},
		{call{"enter", 2, math.MaxInt}, "false 0", "9 2 fat [4 6 1 9223372036854775807] []"},
		{call{"exit", 2, 9}, "0 0", "9 1 fat [4 6 1 9223372036854775807] []"},
		{call{"exit", 2, 9}, "4 0", "4 1 fat [6 1 9223372036854775807] []"},
		{call{"enter", 2, 9}, "false 0", "4 1 fat [6 1 9223372036854775807 9] []"},
		{call{"enter", 2, 4}, "true 0", "4 2 fat [6 1 9223372036854775807 9] []"},
		{call{"exit", 2, 4}, "0 0", "4 1 fat [6 1 9223372036854775807 9] []"},
		{call{"exit", 2, 4}, "6 0", "6 1 fat [1 9223372036854775807 9] []"},
		{call{"exit", 2, 6}, "1 0", "1 1 fat [9223372036854775807 9] []"},
		{call{"exit", 2, 1}, "9223372036854775807 0", "9223372036854775807 1 fat [9] []"},
		{call{"exit", 2, math.MaxInt}, "9 0", "9 1 fat [] []"},
		{call{"exit", 2, 9}, "0 0", "0 0 fat [] []"},
		{call{"exit", 2, 9}, "0 130", "0 0 fat [] []"},
	})
}

// full: a table with a lock of each kind: thin, fat by count, with some in Entry, with some in Wait, free and Fat with some in Wait, free and Fat.
func full() *Table {
	return after(
		call{"enter", 1, 10}, call{"enter", 1, 10},
		call{"enter", 2, 20}, call{"enter", 2, 20}, call{"enter", 2, 20}, call{"enter", 2, 20},
		call{"enter", 3, 30}, call{"enter", 3, 31}, call{"enter", 3, 32},
		call{"enter", 4, 40}, call{"enter", 4, 40}, call{"wait", 4, 40}, call{"enter", 4, 41}, call{"enter", 4, 42}, call{"wait", 4, 41},
		call{"enter", 5, 50}, call{"wait", 5, 50},
		call{"enter", 6, 60}, call{"wait", 6, 60}, call{"enter", 6, 61}, call{"notify", 6, 61}, call{"exit", 6, 61}, call{"exit", 6, 60},
	)
}

const fullText = "1: 10 2 thin [] []; 2: 20 4 fat [] []; 3: 30 1 fat [31 32] []; 4: 42 1 fat [] [40 41]; 5: 0 0 fat [] [50]; 6: 0 0 fat [] []; "

// fullThreads: all that are in it, and some that aren't.
func fullThreads() []int {
	return []int{1, 10, 20, 30, 31, 32, 40, 41, 42, 50, 60, 61, 99, math.MaxInt}
}

// stays: a call that answers that, and changes nothing.
func stays(t testing.TB, m *Table, promise string, c call, want string) {
	t.Helper()
	before := text(m)
	if got := run(m, c); got != want {
		t.Fatalf("%s: %v: %s, not %s: %s", promise, c, got, want, before)
	}
	if got := text(m); got != before {
		t.Fatalf("%s: %v made of %s: %s", promise, c, before, got)
	}
}

// text: all locks that aren't as if they were never entered, asked by number.
func text(m *Table) string {
	s := ""
	for _, at := range append(wrongs(), 1, 2, 3, 4, 5, 6, 7, 8, 9, 70, math.MaxInt) {
		if l := say(m.Lock(at)); l != never {
			s += fmt.Sprint(at, ": ", l, "; ")
		}
	}
	return s
}

func TestNumbersThatMayNotBe(t *testing.T) {
	for _, m := range []*Table{full(), New(), new(Table)} {
		for _, wrong := range wrongs() {
			for _, thread := range append(fullThreads(), wrongs()...) {
				stays(t, m, "P13.1", call{"enter", wrong, thread}, "false 130")
				for _, name := range []string{"exit", "wait", "notify", "all"} {
					stays(t, m, "P13.1, P13.2", call{name, wrong, thread}, "0 130")
				}
			}
			for _, at := range []int{1, 2, 3, 4, 5, 6, 7, math.MaxInt} {
				stays(t, m, "P13.1", call{"enter", at, wrong}, "false 130")
				// A free lock tells the owner 0: nobody is that.
				for _, name := range []string{"exit", "wait", "notify", "all"} {
					stays(t, m, "P13.1, P13.2", call{name, at, wrong}, "0 130")
				}
			}
		}
	}
	if got := text(full()); got != fullText {
		t.Fatalf("the table isn't what it is meant to be: %s", got)
	}
}

// Who stands in a list enters nothing: what it stands in line for, what it has, what is free, what is another's.
func TestEnterOfThoseWhoStand(t *testing.T) {
	for _, thread := range []int{31, 32, 40, 41, 50} {
		m := full()
		for _, at := range []int{1, 2, 3, 4, 5, 6, 7, math.MaxInt, 0, -1} {
			stays(t, m, "P13.1", call{"enter", at, thread}, "false 130")
		}
	}
	m := after(call{"enter", 1, 5}, call{"enter", 2, 6}, call{"enter", 2, 5})
	stays(t, m, "P13.1", call{"enter", 1, 5}, "false 130")
	stays(t, m, "P13.1", call{"enter", 2, 5}, "false 130")
	stays(t, m, "P13.1", call{"enter", 3, 5}, "false 130")
	walk(t, m, "P13.1", []step{
		{call{"exit", 2, 6}, "5 0", "5 1 fat [] []"},
		{call{"enter", 1, 5}, "true 0", "5 2 thin [] []"},
		{call{"enter", 3, 5}, "true 0", "5 1 thin [] []"},
	})
}

// A thread that waited enters again as soon as it has the lock back, and not when it is notified.
func TestEnterBehindAWait(t *testing.T) {
	m := after(call{"enter", 1, 5}, call{"wait", 1, 5}, call{"enter", 1, 6})
	stays(t, m, "P13.1", call{"enter", 2, 5}, "false 130")
	run(m, call{"notify", 1, 6})
	stays(t, m, "P13.1", call{"enter", 2, 5}, "false 130")
	stays(t, m, "P13.1", call{"enter", 1, 5}, "false 130")
	walk(t, m, "P13.1", []step{
		{call{"exit", 1, 6}, "5 0", "5 1 fat [] []"},
		{call{"enter", 2, 5}, "true 0", "5 1 thin [] []"},
		{call{"enter", 1, 5}, "true 0", "5 2 fat [] []"},
	})
}

func TestExitOfWhoIsNotTheOwner(t *testing.T) {
	owners := map[int]int{1: 10, 2: 20, 3: 30, 4: 42}
	m := full()
	for _, thread := range fullThreads() {
		for _, at := range []int{1, 2, 3, 4, 5, 6, 7, math.MaxInt} {
			if owners[at] != thread {
				stays(t, m, "P13.1", call{"exit", at, thread}, "0 130")
			}
		}
	}
}

func TestExitOfALockThatWasNeverEntered(t *testing.T) {
	for _, m := range []*Table{New(), new(Table), full()} {
		for _, thread := range rights() {
			stays(t, m, "P13.1", call{"exit", 70, thread}, "0 130")
		}
	}
	m := after(call{"enter", 7, 3}, call{"exit", 7, 3})
	stays(t, m, "P13.1", call{"exit", 7, 3}, "0 130")
	m = after(call{"enter", 7, 3}, call{"exit", 7, 3}, call{"forget", 7, 0})
	stays(t, m, "P13.1", call{"exit", 7, 3}, "0 130")
}

// The words say of Exit that the owner alone is asked for: one that stands in line elsewhere still exits.
func TestExitOfAnOwnerThatStands(t *testing.T) {
	m := after(call{"enter", 1, 5}, call{"enter", 1, 5}, call{"enter", 1, 6}, call{"enter", 2, 7}, call{"enter", 2, 5})
	walk(t, m, "P13.1", []step{
		{call{"exit", 1, 5}, "0 0", "5 1 fat [6] []"},
		{call{"exit", 1, 5}, "6 0", "6 1 fat [] []"},
		{call{"enter", 1, 5}, "false 130", "6 1 fat [] []"},
		{call{"exit", 2, 7}, "5 0", "5 1 fat [] []"},
		{call{"enter", 1, 5}, "false 0", "6 1 fat [5] []"},
	})
}

func TestLocksBesideOneAnother(t *testing.T) {
	m := New()
	all := rights()
	for n, at := range all {
		run(m, call{"enter", at, n + 1})
	}
	for n, at := range all {
		for m.Lock(at).Count <= n%5 {
			run(m, call{"enter", at, n + 1})
		}
	}
	for n, at := range all {
		want := say(api.Lock{Owner: n + 1, Count: n%5 + 1, Fat: n%5+1 > api.Thin})
		if got := say(m.Lock(at)); got != want {
			t.Errorf("P13.1: lock %d: %s, not %s", at, got, want)
		}
	}
	for n, at := range all {
		for m.Lock(at).Owner != 0 {
			if _, err := m.Exit(at, n+1); err != api.OK {
				t.Fatalf("P13.1: lock %d: %d", at, err)
			}
		}
		for k, other := range all[n+1:] {
			if m.Lock(other).Owner != n+k+2 {
				t.Fatalf("P13.1: lock %d: %s", other, say(m.Lock(other)))
			}
		}
	}
}
