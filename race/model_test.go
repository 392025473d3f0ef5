package race

import (
	"fmt"
	"math/rand"
	"slices"
	"testing"

	"loom/api"
)

// kept: a clock as it was once, whose it was and of what.
type kept struct {
	name         string // end, lock, volatile, read, write
	thread, a, b int
	clock        Clock
}

// model: the chapter's words, by one list of all that ever was, of which nothing is taken out.
type model struct {
	threads map[int]Clock
	list    []kept
	races   int
}

func newModel() *model {
	d := &model{threads: map[int]Clock{}}
	for id := 1; id <= 12; id++ {
		d.threads[id] = alone(13, id, 1)
	}
	return d
}

func (d *model) keep(name string, thread, a, b int) {
	d.list = append(d.list, kept{name, thread, a, b, append(Clock(nil), d.threads[thread]...)})
}

func (d *model) more(thread int) {
	c := append(Clock(nil), d.threads[thread]...)
	c[thread]++
	d.threads[thread] = c
}

// learn: all that was ever handed on by that name.
func (d *model) learn(thread int, name string, a, b int) {
	for _, k := range d.list {
		if k.name == name && k.a == a && k.b == b {
			d.threads[thread] = wantJoin(d.threads[thread], k.clock)
		}
	}
}

func (d *model) race(c call) bool {
	for _, k := range d.list {
		meets := k.name == "write" || k.name == "read" && c.name == "write"
		if meets && k.a == c.a && k.b == c.b && k.thread != c.thread && !wantBefore(k.clock, d.threads[c.thread]) {
			return true
		}
	}
	return false
}

func (d *model) run(c call) string {
	_, is := d.threads[c.thread]
	if !is && (c.name == "read" || c.name == "write" || c.name == "vread" || c.name == "vwrite") {
		return "false"
	}
	if !is {
		return ""
	}
	switch c.name {
	case "begin":
		if by, ok := d.threads[c.a]; ok {
			d.threads[c.thread] = wantJoin(d.threads[c.thread], by)
			d.more(c.a)
		}
	case "end":
		d.keep("end", c.thread, c.thread, 0)
	case "joined":
		d.learn(c.thread, "end", c.a, 0)
	case "acquire":
		d.learn(c.thread, "lock", c.a, 0)
	case "release":
		d.keep("lock", c.thread, c.a, 0)
		d.more(c.thread)
	case "vread":
		d.learn(c.thread, "volatile", c.a, c.b)
		return "false"
	case "vwrite":
		d.keep("volatile", c.thread, c.a, c.b)
		d.more(c.thread)
		return "false"
	default:
		race := d.race(c)
		d.keep(c.name, c.thread, c.a, c.b)
		if race {
			d.races++
		}
		return fmt.Sprint(race)
	}
	return ""
}

func (d *model) text() string {
	s := ""
	for id := 1; id <= 12; id++ {
		s += say(d.threads[id]) + " "
	}
	return s + fmt.Sprint(d.races)
}

// pair: a watch and its model, told the same.
type pair struct {
	t    testing.TB
	w    *Watch
	d    *model
	done []call
}

func newPair(t testing.TB) *pair { return &pair{t: t, w: New(), d: newModel()} }

func (p *pair) run(c call) {
	p.t.Helper()
	p.done = append(p.done, c)
	if got, want := run(p.w, c), p.d.run(c); got != want {
		p.t.Fatalf("P17.1, P17.2: %v: %q, not %q", p.done, got, want)
	}
}

func (p *pair) same() {
	p.t.Helper()
	alike := p.w.Races() == p.d.races
	for id := 1; id <= 12; id++ {
		alike = alike && slices.Equal(p.w.Clock(id), p.d.threads[id])
	}
	if !alike {
		p.t.Fatalf("P17.1, P17.2: %v: %s, not %s", p.done, text(p.w), p.d.text())
	}
}

// few: all calls of few threads, one object and one word.
func few(threads int) []call {
	var all []call
	for id := 1; id <= threads; id++ {
		for other := 1; other <= threads; other++ {
			if other != id {
				all = append(all, call{"begin", id, other, 0}, call{"joined", id, other, 0})
			}
		}
		all = append(all, call{"end", id, 0, 0}, call{"acquire", id, 5, 0}, call{"release", id, 5, 0}, call{"read", id, 5, 0}, call{"write", id, 5, 0}, call{"vread", id, 5, 0}, call{"vwrite", id, 5, 0})
	}
	return all
}

// rows: each row of so many calls.
func rows(calls []call, length int, each func(row []call)) {
	row := make([]call, length)
	var fill func(n int)
	fill = func(n int) {
		if n == length {
			each(row)
			return
		}
		for _, c := range calls {
			row[n] = c
			fill(n + 1)
		}
	}
	fill(0)
}

func TestAllShortRows(t *testing.T) {
	for _, size := range []struct{ threads, length int }{{2, 4}, {3, 3}} {
		calls := few(size.threads)
		rows(calls, size.length, func(row []call) {
			p := newPair(t)
			for _, c := range row {
				p.run(c)
			}
			p.same()
		})
	}
}

// drawn: a call of these threads, objects and words.
func drawn(r *rand.Rand, threads, objects, words []int) call {
	names := []string{"begin", "joined", "end", "acquire", "acquire", "release", "read", "read", "write", "write", "vread", "vwrite"}
	one := func(list []int) int { return list[r.Intn(len(list))] }
	c := call{name: names[r.Intn(len(names))], thread: one(threads)}
	switch c.name {
	case "begin", "joined":
		c.a = one(threads)
	case "acquire", "release":
		c.a = one(objects)
	case "read", "write", "vread", "vwrite":
		c.a, c.b = one(objects), one(words)
	}
	return c
}

// upTo: the numbers from 1 on.
func upTo(last int) []int {
	var list []int
	for n := range last {
		list = append(list, n+1)
	}
	return list
}

func TestDrawnRows(t *testing.T) {
	r := rand.New(rand.NewSource(17))
	for n := range 300 {
		p := newPair(t)
		threads, objects := upTo(2+n%11), rights()[:1+n%5]
		for range 150 {
			p.run(drawn(r, threads, objects, []int{0, 1}))
			p.same()
		}
	}
}

// Threads that are none, and objects and words of whatever number, among those that are.
func TestDrawnRowsOfWhateverNumbers(t *testing.T) {
	r := rand.New(rand.NewSource(71))
	for range 100 {
		p := newPair(t)
		threads := append(none()[r.Intn(8):], upTo(api.MaxThreads)...)
		for range 300 {
			p.run(drawn(r, threads, rights(), rights()))
		}
		p.same()
	}
}

func TestALongRow(t *testing.T) {
	r := rand.New(rand.NewSource(3))
	p := newPair(t)
	for n := range 4000 {
		p.run(drawn(r, upTo(6), upTo(40), upTo(3)))
		if n%100 == 0 {
			p.same()
		}
	}
	p.same()
}
