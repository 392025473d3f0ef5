package monitor

import (
	"fmt"
	"math"
	"math/rand"
	"slices"
	"testing"

	"loom/api"
)

// call: one call that may change a table.
type call struct {
	name       string // enter, exit, wait, notify, all, forget
	at, thread int
}

// run: a call's answers, as a text.
func run(m *Table, c call) string {
	switch c.name {
	case "enter":
		had, err := m.Enter(c.at, c.thread)
		return fmt.Sprint(had, " ", int(err))
	case "exit":
		who, err := m.Exit(c.at, c.thread)
		return fmt.Sprint(who, " ", int(err))
	case "wait":
		who, err := m.Wait(c.at, c.thread)
		return fmt.Sprint(who, " ", int(err))
	case "notify", "all":
		count, err := m.Notify(c.at, c.thread, c.name == "all")
		return fmt.Sprint(count, " ", int(err))
	case "forget":
		return fmt.Sprint(int(m.Forget(c.at)))
	}
	panic("no such call: " + c.name)
}

// say: a lock as a text; a nil list and an empty one are the same.
func say(l api.Lock) string {
	fat := "thin"
	if l.Fat {
		fat = "fat"
	}
	return fmt.Sprint(l.Owner, " ", l.Count, " ", fat, " ", l.Entry, " ", l.Wait)
}

const never = "0 0 thin [] []"

// row: a thread in a list of a lock. All rows of all locks are one list, in the order in which they came to be.
type row struct {
	at, thread, count int
	waits             bool // in Wait; else in Entry
}

// taken: who has a lock, and how often.
type taken struct{ at, thread, count int }

// model: the chapter's words, by going over lists that know nothing of one another.
type model struct {
	owners []taken
	rows   []row
	fat    []int
}

func (d *model) owner(at int) *taken {
	for n := range d.owners {
		if d.owners[n].at == at {
			return &d.owners[n]
		}
	}
	return nil
}

func (d *model) has(at, thread int) bool {
	o := d.owner(at)
	return o != nil && o.thread == thread
}

func (d *model) stands(thread int) bool {
	return slices.ContainsFunc(d.rows, func(r row) bool { return r.thread == thread })
}

func (d *model) list(at int, waits bool) []int {
	var list []int
	for _, r := range d.rows {
		if r.at == at && r.waits == waits {
			list = append(list, r.thread)
		}
	}
	return list
}

// take: the first row of a list, which is out of it.
func (d *model) take(at int, waits bool) (row, bool) {
	n := slices.IndexFunc(d.rows, func(r row) bool { return r.at == at && r.waits == waits })
	if n < 0 {
		return row{}, false
	}
	r := d.rows[n]
	d.rows = slices.Delete(slices.Clone(d.rows), n, n+1)
	return r, true
}

func (d *model) makeFat(at int) {
	if !slices.Contains(d.fat, at) {
		d.fat = append(d.fat, at)
		slices.Sort(d.fat)
	}
}

func (d *model) handOver(at int) int {
	d.owners = slices.DeleteFunc(d.owners, func(o taken) bool { return o.at == at })
	r, ok := d.take(at, false)
	if !ok {
		return 0
	}
	d.owners = append(d.owners, taken{at, r.thread, r.count})
	return r.thread
}

func (d *model) enter(at, thread int) string {
	if at < 1 || thread < 1 || d.stands(thread) {
		return "false 130"
	}
	o := d.owner(at)
	if o == nil {
		d.owners = append(d.owners, taken{at, thread, 1})
		return "true 0"
	}
	if o.thread == thread {
		o.count++
		if o.count >= 4 {
			d.makeFat(at)
		}
		return "true 0"
	}
	d.rows = append(d.rows, row{at, thread, 1, false})
	d.makeFat(at)
	return "false 0"
}

func (d *model) notify(at int, most int) string {
	told := 0
	for told < most {
		r, ok := d.take(at, true)
		if !ok {
			break
		}
		r.waits = false
		d.rows = append(d.rows, r)
		told++
	}
	return fmt.Sprint(told, " 0")
}

func (d *model) forget(at int) string {
	if d.owner(at) != nil || len(d.list(at, true)) > 0 || len(d.list(at, false)) > 0 {
		return "130"
	}
	d.fat = slices.DeleteFunc(d.fat, func(one int) bool { return one == at })
	return "0"
}

func (d *model) run(c call) string {
	if c.name == "enter" {
		return d.enter(c.at, c.thread)
	}
	if c.name == "forget" {
		return d.forget(c.at)
	}
	if !d.has(c.at, c.thread) {
		return "0 130"
	}
	switch c.name {
	case "exit":
		if o := d.owner(c.at); o.count > 1 {
			o.count--
			return "0 0"
		}
		return fmt.Sprint(d.handOver(c.at), " 0")
	case "wait":
		d.rows = append(d.rows, row{c.at, c.thread, d.owner(c.at).count, true})
		d.makeFat(c.at)
		return fmt.Sprint(d.handOver(c.at), " 0")
	case "notify":
		return d.notify(c.at, 1)
	case "all":
		return d.notify(c.at, math.MaxInt)
	}
	panic("no such call: " + c.name)
}

func (d *model) lock(at int) api.Lock {
	l := api.Lock{Fat: slices.Contains(d.fat, at), Entry: d.list(at, false), Wait: d.list(at, true)}
	if o := d.owner(at); o != nil {
		l.Owner, l.Count = o.thread, o.count
	}
	return l
}

func (d *model) held(thread int) []int {
	var held []int
	for _, o := range d.owners {
		if o.thread == thread {
			held = append(held, o.at)
		}
	}
	slices.Sort(held)
	return held
}

// pair: a table and the model, told the same.
type pair struct {
	t    testing.TB
	m    *Table
	d    model
	done []call
}

func newPair(t testing.TB) *pair { return &pair{t: t, m: New()} }

func (p *pair) run(c call) string {
	p.t.Helper()
	p.done = append(p.done, c)
	got, want := run(p.m, c), p.d.run(c)
	if got != want {
		p.t.Fatalf("P13.1, P13.2: %v: %s, not %s", p.done, got, want)
	}
	return got
}

// same: all that both tell of these locks and threads.
func (p *pair) same(locks, threads []int) {
	p.t.Helper()
	for _, at := range locks {
		if got, want := say(p.m.Lock(at)), say(p.d.lock(at)); got != want {
			p.t.Fatalf("P13.3: %v: lock %d: %s, not %s", p.done, at, got, want)
		}
	}
	for _, thread := range threads {
		if got, want := p.m.Held(thread), p.d.held(thread); !slices.Equal(got, want) {
			p.t.Fatalf("P13.3: %v: thread %d has %v, not %v", p.done, thread, got, want)
		}
	}
}

var names = []string{"enter", "exit", "wait", "notify", "all", "forget"}

// calls: each of the calls with each of these locks and threads.
func calls(locks, threads []int) []call {
	var list []call
	for _, name := range names {
		for _, at := range locks {
			for _, thread := range threads {
				list = append(list, call{name, at, thread})
			}
		}
	}
	return list
}

// every: from an empty table on, each state that can be come to with these locks and threads, none taken more often than most, and each call in each of them.
func every(t *testing.T, locks, threads []int, most int) int {
	t.Helper()
	all := calls(locks, threads)
	key := func(d model) string {
		slices.SortFunc(d.owners, func(a, b taken) int { return a.at - b.at })
		// Rows of unlike locks, and of unlike lists, have no order among one another.
		slices.SortStableFunc(d.rows, func(a, b row) int { return 2*(a.at-b.at) + fold(a.waits) - fold(b.waits) })
		return fmt.Sprint(d.owners, d.rows, d.fat)
	}
	known := map[string]bool{}
	ways := [][]call{nil}
	for len(ways) > 0 {
		way := ways[0]
		ways = ways[1:]
		for _, c := range all {
			p := newPair(t)
			for _, before := range way {
				p.run(before)
			}
			if o := p.d.owner(c.at); c.name == "enter" && o != nil && o.count == most {
				continue
			}
			p.run(c)
			p.same(locks, threads)
			k := key(model{slices.Clone(p.d.owners), slices.Clone(p.d.rows), p.d.fat})
			if !known[k] {
				known[k] = true
				ways = append(ways, p.done)
			}
		}
	}
	return len(known)
}

func fold(b bool) int {
	if b {
		return 1
	}
	return 0
}

func TestEachStateOfOneLock(t *testing.T) {
	if n := every(t, []int{1}, []int{1, 2, 3}, 4); n < 200 {
		t.Fatalf("%d states alone", n)
	}
	if n := every(t, []int{1}, []int{1, 2, 3, 4}, 2); n < 500 {
		t.Fatalf("%d states alone", n)
	}
}

func TestEachStateOfTwoLocks(t *testing.T) {
	if n := every(t, []int{1, 2}, []int{1, 2}, 3); n < 500 {
		t.Fatalf("%d states alone", n)
	}
	if n := every(t, []int{1, 2}, []int{1, 2, 3}, 1); n < 200 {
		t.Fatalf("%d states alone", n)
	}
}

// drawn: calls at random, most of them enters so that locks are taken, with numbers that may not be among them.
func drawn(r *rand.Rand, locks, threads []int) call {
	name := names[r.Intn(len(names))]
	if r.Intn(3) == 0 {
		name = "enter"
	}
	return call{name, locks[r.Intn(len(locks))], threads[r.Intn(len(threads))]}
}

func TestDrawnCalls(t *testing.T) {
	locks := []int{1, 2, 3, 7, 1<<32 + 1, math.MaxInt, 0, -1, math.MinInt}
	threads := []int{1, 2, 3, 4, 5, 9, 1<<32 + 1, math.MaxInt, 0, -1, math.MinInt}
	for seed := range 150 {
		r := rand.New(rand.NewSource(int64(seed)))
		p := newPair(t)
		few, some := locks[:1+r.Intn(len(locks))], threads[:1+r.Intn(len(threads))]
		for range 300 {
			p.run(drawn(r, few, some))
			p.same(locks, threads)
		}
	}
}

// Only threads that stand nowhere do anything, as a machine's do: no other one is left in two lists.
func TestDrawnCallsOfThreadsThatRun(t *testing.T) {
	locks, threads := []int{1, 2, 3, 4}, []int{1, 2, 3, 4, 5, 6, 7}
	for seed := range 100 {
		r := rand.New(rand.NewSource(int64(seed)))
		p := newPair(t)
		for range 400 {
			if !slices.ContainsFunc(threads, func(thread int) bool { return !p.d.stands(thread) }) {
				p = newPair(t)
			}
			c := drawn(r, locks, threads)
			if p.d.stands(c.thread) {
				continue
			}
			p.run(c)
			p.same(locks, threads)
			for _, thread := range threads {
				if n := p.m.stands[thread]; n > 1 {
					t.Fatalf("%v: %d stands in %d lists", p.done, thread, n)
				}
			}
		}
	}
}
