package monitor

import (
	"math/rand"
	"slices"
	"testing"

	"loom/api"
)

// spoil: all of a list, its spare room too, and what is put behind it.
func spoil(list []int, v int) {
	_ = append(list, v, v, v, v)
	list = list[:cap(list)]
	for n := range list {
		list[n] = v
	}
}

// copied: a lock in memory of its own.
func copied(l api.Lock) api.Lock {
	l.Entry, l.Wait = slices.Clone(l.Entry), slices.Clone(l.Wait)
	return l
}

// crowded: a lock with some in both lists, of which some were in others; a thread with several locks.
func crowded() *pair {
	p := &pair{m: New()}
	for _, c := range []call{
		{"enter", 1, 11}, {"enter", 1, 11}, {"wait", 1, 11}, {"enter", 1, 12}, {"wait", 1, 12}, {"enter", 1, 13}, {"wait", 1, 13}, {"enter", 1, 14}, {"wait", 1, 14},
		{"enter", 1, 15}, {"enter", 1, 16}, {"enter", 1, 17}, {"notify", 1, 15}, {"enter", 1, 18}, {"exit", 1, 15},
		{"enter", 9, 16}, {"enter", 4, 16}, {"enter", 7, 16}, {"enter", 2, 19}, {"enter", 8, 15},
	} {
		run(p.m, c)
		p.d.run(c)
		p.done = append(p.done, c)
	}
	return p
}

var crowdedLocks, crowdedThreads = []int{1, 2, 4, 7, 8, 9, 5}, []int{11, 12, 13, 14, 15, 16, 17, 18, 19, 1}

func TestAnswersAreNewMemory(t *testing.T) {
	p := crowded()
	p.t = t
	if got := say(p.m.Lock(1)); got != "16 1 fat [17 11 18] [12 13 14]" {
		t.Fatalf("the lock isn't what it is meant to be: %s", got)
	}
	r := rand.New(rand.NewSource(13))
	for range 200 {
		l, again, held := p.m.Lock(1), p.m.Lock(1), p.m.Held(16)
		was, heldWas := copied(l), slices.Clone(held)
		// Neither its other list, nor another answer, nor the table.
		spoil(again.Entry, 77)
		if !slices.Equal(again.Wait, was.Wait) {
			t.Fatalf("P13.3: two lists of one answer share memory: %v", again)
		}
		spoil(again.Wait, 78)
		spoil(p.m.Held(16), 79)
		if say(l) != say(was) || !slices.Equal(held, heldWas) {
			t.Fatalf("P13.3: an earlier answer was touched: %s, %v", say(l), held)
		}
		p.same(crowdedLocks, crowdedThreads)
		// An answer stays, whatever becomes of the table.
		p.run(drawn(r, crowdedLocks, crowdedThreads))
		p.same(crowdedLocks, crowdedThreads)
		if say(l) != say(was) || !slices.Equal(held, heldWas) {
			t.Fatalf("P13.3: an earlier answer was changed: %s, %v", say(l), held)
		}
		spoil(l.Wait, 80)
		spoil(l.Entry, 81)
		spoil(held, 82)
		p.same(crowdedLocks, crowdedThreads)
	}
}

// Those who are moved from one list to the other don't write over one another, whatever room the lists have.
func TestListsOfATableShareNothing(t *testing.T) {
	for count := 1; count < 40; count++ {
		p := newPair(t)
		for thread := 1; thread <= count; thread++ {
			p.run(call{"enter", 1, thread})
			p.run(call{"wait", 1, thread})
		}
		p.run(call{"enter", 1, 100})
		for n := range count {
			p.run(call{"notify", 1, 100})
			p.run(call{"enter", 1, 200 + n})
			p.same([]int{1}, []int{100})
		}
		for range 2*count + 1 {
			c := call{"wait", 1, p.m.Lock(1).Owner}
			p.run(c)
			p.same([]int{1}, []int{100, 1, 200})
		}
		p.run(call{"enter", 1, 300})
		p.run(call{"all", 1, 300})
		p.same([]int{1}, []int{300})
	}
}

// Two tables, told unlike things by turns: a thread that stands in one stands nowhere in the other.
func TestTwoTables(t *testing.T) {
	one, other := newPair(t), newPair(t)
	locks, threads := []int{1, 2, 3}, []int{1, 2, 3, 4}
	one.run(call{"enter", 1, 1})
	one.run(call{"enter", 1, 2})
	if got := other.run(call{"enter", 1, 2}); got != "true 0" {
		t.Fatalf("another table: %s", got)
	}
	r := rand.New(rand.NewSource(5))
	for range 500 {
		one.run(drawn(r, locks, threads))
		other.run(drawn(r, locks, threads))
		one.same(locks, threads)
		other.same(locks, threads)
	}
}

// The same calls, the same answers: nothing hangs on the order in which a map is gone through.
func TestTheSameCallsAnswerTheSame(t *testing.T) {
	var first [][]int
	for round := range 20 {
		m := New()
		for n := range 200 {
			m.Enter(1+n*37%200, 1+n%3)
		}
		answers := [][]int{m.Held(1), m.Held(2), m.Held(3)}
		if round == 0 {
			first = answers
		}
		if !slices.EqualFunc(first, answers, func(a, b []int) bool { return slices.Equal(a, b) }) {
			t.Fatalf("P13.3: %v, and then %v", first, answers)
		}
	}
}

// A table that New didn't make is one in which nothing was ever entered.
func TestTheZeroTable(t *testing.T) {
	for _, c := range calls([]int{1}, []int{1}) {
		p := &pair{t: t, m: new(Table)}
		p.same([]int{1, 0}, []int{1, 0})
		p.run(c)
		p.same([]int{1, 0}, []int{1, 0})
		p.run(call{"enter", 1, 2})
		p.run(call{"enter", 1, 3})
		p.same([]int{1, 0}, []int{1, 2, 3})
	}
	if New() == nil {
		t.Error("New told nil")
	}
}
