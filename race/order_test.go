package race

import (
	"math/rand"
	"slices"
	"testing"

	"loom/api"
)

// past: which touches are known, by their places in the row. No clock is in it.
type past map[int]bool

func (p past) add(other past) {
	for n := range other {
		p[n] = true
	}
}

// order: what happens before what, by handing on what is known.
type order struct {
	known, ends, locks map[int]past
	volatiles          map[[2]int]past
	row                []call
	late               bool // a thread went on behind its end
}

func newOrder() *order {
	return &order{known: map[int]past{}, ends: map[int]past{}, locks: map[int]past{}, volatiles: map[[2]int]past{}}
}

// of: a past that may be added to.
func of[K comparable](m map[K]past, k K) past {
	if m[k] == nil {
		m[k] = past{}
	}
	return m[k]
}

// told: whether a call meets an earlier one by another thread that isn't known to its own.
func (o *order) told(c call) bool {
	mine := of(o.known, c.thread)
	o.late = o.late || o.ends[c.thread] != nil
	o.row = append(o.row, c)
	switch c.name {
	case "begin":
		mine.add(of(o.known, c.a))
		o.late = o.late || o.ends[c.a] != nil
	case "end":
		of(o.ends, c.thread).add(mine)
	case "joined":
		mine.add(o.ends[c.a])
	case "acquire":
		mine.add(o.locks[c.a])
	case "release":
		of(o.locks, c.a).add(mine)
	case "vread":
		mine.add(o.volatiles[[2]int{c.a, c.b}])
	case "vwrite":
		of(o.volatiles, [2]int{c.a, c.b}).add(mine)
	default:
		at := len(o.row) - 1
		race := slices.ContainsFunc(o.meets(c), func(n int) bool { return !mine[n] })
		mine[at] = true
		return race
	}
	return false
}

// meets: the earlier ones of the word by other threads, of which one is a write.
func (o *order) meets(c call) []int {
	var all []int
	for n, e := range o.row[:len(o.row)-1] {
		plain := e.name == "write" || e.name == "read" && c.name == "write"
		if plain && e.a == c.a && e.b == c.b && e.thread != c.thread {
			all = append(all, n)
		}
	}
	return all
}

// ordered: a row's answers: what is ordered is no race, whatever the row is; what isn't is one, unless a thread goes on behind its end.
func ordered(t testing.TB, row []call) {
	t.Helper()
	w, o := New(), newOrder()
	for _, c := range row {
		race := o.told(c)
		got := run(w, c) == "true"
		if got && !race {
			t.Fatalf("P17.3: %v is ordered, and is a race behind %v", c, o.row)
		}
		if race && !got && !o.late {
			t.Fatalf("P17.2: %v isn't ordered, and is no race behind %v", c, o.row)
		}
	}
}

func TestOrderInAllShortRows(t *testing.T) {
	rows(few(2), 4, func(row []call) {
		if last := row[3].name; last == "read" || last == "write" {
			ordered(t, row)
		}
	})
	// Three threads, of which the one hands on, and all touch the word.
	var calls []call
	for id := 1; id <= 3; id++ {
		calls = append(calls, call{"acquire", id, 5, 0}, call{"release", id, 5, 0}, call{"write", id, 5, 0})
	}
	rows(calls, 5, func(row []call) {
		if row[4].name == "write" {
			ordered(t, row)
		}
	})
}

func TestOrderInDrawnRows(t *testing.T) {
	r := rand.New(rand.NewSource(173))
	for n := range 600 {
		threads, objects := upTo(2+n%11), upTo(1+n%4)
		var row []call
		for range 30 + r.Intn(120) {
			if c := drawn(r, threads, objects, []int{0, 1}); c.name != "end" || r.Intn(4) == 0 {
				row = append(row, c)
			}
		}
		ordered(t, row)
		ordered(t, ending(row))
	}
}

// ending: a row without what a thread does behind its end.
func ending(row []call) []call {
	gone := map[int]bool{}
	var kept []call
	for _, c := range row {
		if gone[c.thread] || c.name == "begin" && gone[c.a] {
			continue
		}
		gone[c.thread] = c.name == "end"
		kept = append(kept, c)
	}
	return kept
}

// Rows of threads that take one lock for all that they touch: none of it is a race, whoever comes when.
func TestUnderOneLock(t *testing.T) {
	r := rand.New(rand.NewSource(4))
	for n := range 200 {
		w := New()
		for range 400 {
			id := 1 + r.Intn(api.MaxThreads)
			w.Acquire(id, n)
			for range r.Intn(4) {
				c := call{[]string{"read", "write"}[r.Intn(2)], id, r.Intn(3), r.Intn(2)}
				if got := run(w, c); got != "false" {
					t.Fatalf("P17.3: %v under a lock is a race", c)
				}
			}
			w.Release(id, n)
		}
		if w.Races() != 0 {
			t.Fatalf("P17.3: %d", w.Races())
		}
	}
}

// A row of threads, each of which begins the next one and joins it, or hands on by a volatile word.
func TestHandedOnFromOneToTheNext(t *testing.T) {
	w := New()
	touch := func(id int) {
		t.Helper()
		if w.Read(id, 1, 0, false) || w.Write(id, 1, 0, false) {
			t.Errorf("P17.3: by %d: a race", id)
		}
	}
	for id := 1; id < api.MaxThreads; id++ {
		touch(id)
		w.Begin(id+1, id)
	}
	for id := api.MaxThreads; id > 1; id-- {
		touch(id)
		w.End(id)
		w.Joined(id-1, id)
	}
	touch(1)
	for n := range 100 {
		w.Write(1+n%5, 2, n%3, true)
		w.Read(1+(n+1)%5, 2, n%3, true)
		touch(1 + (n+1)%5)
	}
	if w.Races() != 0 {
		t.Errorf("P17.3: %d", w.Races())
	}
}
