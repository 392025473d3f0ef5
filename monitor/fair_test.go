package monitor

import (
	"math/rand"
	"slices"
	"testing"

	"loom/api"
)

// line: since when each thread has stood in line for a lock.
type line map[int]int

// longest: who has stood longest; 0, if nobody does.
func (l line) longest() int {
	who := 0
	for thread, since := range l {
		if who == 0 || since < l[who] {
			who = thread
		}
	}
	return who
}

// fair: what a table tells, held against times: one owner at most, and who stands longest gets a lock next.
type fair struct {
	t     testing.TB
	m     *Table
	now   int
	lines map[int]line
	waits map[int]line
}

func newFair(t testing.TB, locks int) *fair {
	f := &fair{t: t, m: New(), lines: map[int]line{}, waits: map[int]line{}}
	for at := 1; at <= locks; at++ {
		f.lines[at], f.waits[at] = line{}, line{}
	}
	return f
}

// next: who a lock was handed over to, if it was.
func (f *fair) next(at, who int) {
	f.t.Helper()
	if want := f.lines[at].longest(); who != want || f.m.Lock(at).Owner != want {
		f.t.Fatalf("P13.4: lock %d: %d gets it, not %d: %s", at, who, want, say(f.m.Lock(at)))
	}
	delete(f.lines[at], who)
}

func (f *fair) enter(at, thread int) {
	f.t.Helper()
	was := f.m.Lock(at).Owner
	had, err := f.m.Enter(at, thread)
	if err != api.OK || had != (was == 0 || was == thread) {
		f.t.Fatalf("P13.4: Enter(%d, %d): %t, %d; it was %d's", at, thread, had, err, was)
	}
	if !had {
		f.lines[at][thread] = f.now
	}
}

func (f *fair) exit(at, thread int) {
	f.t.Helper()
	last := f.m.Lock(at).Count == 1
	who, err := f.m.Exit(at, thread)
	if err != api.OK || !last && who != 0 {
		f.t.Fatalf("P13.4: Exit(%d, %d): %d, %d", at, thread, who, err)
	}
	if last {
		f.next(at, who)
	}
}

func (f *fair) wait(at, thread int) {
	f.t.Helper()
	who, err := f.m.Wait(at, thread)
	if err != api.OK {
		f.t.Fatalf("P13.4: Wait(%d, %d): %d", at, thread, err)
	}
	f.next(at, who)
	f.waits[at][thread] = f.now
}

func (f *fair) notify(at, thread int, all bool) {
	f.t.Helper()
	count, err := f.m.Notify(at, thread, all)
	want := len(f.waits[at])
	if !all {
		want = min(want, 1)
	}
	if err != api.OK || count != want {
		f.t.Fatalf("P13.4: Notify(%d, %d, %t): %d, not %d, %d", at, thread, all, count, want, err)
	}
	for range count {
		who := f.waits[at].longest()
		delete(f.waits[at], who)
		f.lines[at][who] = f.now
		f.now++
	}
}

// oneOwner: each lock that a thread holds tells that thread, and no lock is held by two; who stands in line has it not; where some stand in line, somebody has it.
func (f *fair) oneOwner(threads int) {
	f.t.Helper()
	owners := map[int]int{}
	for thread := 1; thread <= threads; thread++ {
		for _, at := range f.m.Held(thread) {
			if owners[at] != 0 {
				f.t.Fatalf("P13.4: %d and %d have lock %d", owners[at], thread, at)
			}
			owners[at] = thread
		}
	}
	for at := range f.lines {
		l := f.m.Lock(at)
		if l.Owner != owners[at] || (l.Owner == 0) != (l.Count == 0) || l.Count < 0 {
			f.t.Fatalf("P13.4: lock %d: %s; %d has it", at, say(l), owners[at])
		}
		if len(l.Entry) > 0 && l.Owner == 0 || slices.Contains(l.Entry, l.Owner) || slices.Contains(l.Wait, l.Owner) {
			f.t.Fatalf("P13.4: lock %d: %s", at, say(l))
		}
	}
}

// step: what a thread that runs may do, drawn.
func (f *fair) step(r *rand.Rand, at, thread int) {
	f.t.Helper()
	f.now++
	if f.m.Lock(at).Owner != thread {
		f.enter(at, thread)
		return
	}
	switch r.Intn(7) {
	case 0:
		f.enter(at, thread)
	case 1:
		f.wait(at, thread)
	case 2:
		f.notify(at, thread, false)
	case 3:
		f.notify(at, thread, true)
	default:
		f.exit(at, thread)
	}
}

func (f *fair) stands(thread int) bool {
	for at := range f.lines {
		_, in := f.lines[at][thread]
		_, waits := f.waits[at][thread]
		if in || waits {
			return true
		}
	}
	return false
}

func TestWhoWaitsLongestGetsItNext(t *testing.T) {
	for seed := range 60 {
		r := rand.New(rand.NewSource(int64(seed)))
		locks, threads := 1+r.Intn(3), 2+r.Intn(9)
		f := newFair(t, locks)
		for range 600 {
			at, thread := 1+r.Intn(locks), 1+r.Intn(threads)
			if !f.stands(thread) {
				f.step(r, at, thread)
				f.oneOwner(threads)
			}
		}
	}
}

// A long line is served from its beginning to its end, while others come behind it.
func TestALongLine(t *testing.T) {
	const count = 20000
	f := newFair(t, 1)
	for thread := 1; thread <= count; thread++ {
		had, err := f.m.Enter(1, thread)
		if had != (thread == 1) || err != api.OK {
			t.Fatalf("P13.4: %d: %t, %d", thread, had, err)
		}
	}
	for thread := 1; thread < 3*count; thread++ {
		if thread <= 2*count {
			f.m.Enter(1, count+thread)
		}
		if who, err := f.m.Exit(1, thread); who != thread+1 || err != api.OK {
			t.Fatalf("P13.4: %d gets it behind %d: %d", who, thread, err)
		}
	}
	if got := say(f.m.Lock(1)); got != "60000 1 fat [] []" {
		t.Errorf("P13.4: %s", got)
	}
}

// Many that wait, notified one by one and then all at once.
func TestManyThatWait(t *testing.T) {
	const count = 20000
	m := New()
	for thread := 1; thread <= count; thread++ {
		m.Enter(1, thread)
		if who, err := m.Wait(1, thread); who != 0 || err != api.OK {
			t.Fatalf("P13.2: %d: %d, %d", thread, who, err)
		}
	}
	m.Enter(1, count+1)
	for range count / 2 {
		if told, err := m.Notify(1, count+1, false); told != 1 || err != api.OK {
			t.Fatalf("P13.2: %d, %d", told, err)
		}
	}
	if told, err := m.Notify(1, count+1, true); told != count/2 || err != api.OK {
		t.Fatalf("P13.2: %d, %d", told, err)
	}
	for last, next := count+1, 1; next <= count; last, next = next, next+1 {
		if who, err := m.Exit(1, last); who != next || err != api.OK {
			t.Fatalf("P13.4: %d, not %d: %d", who, next, err)
		}
	}
}
