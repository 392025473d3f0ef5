package sched

import (
	"fmt"
	"math"
	"math/big"
	"math/rand"
	"slices"
	"testing"

	"loom/api"
)

// call: one call that may change a Sched; b is a state of a set, the other thread of a join.
type call struct {
	name string // spawn, set, join, end
	a, b int
}

// run: a call's answers, as a text.
func run(s *Sched, c call) string {
	switch c.name {
	case "spawn":
		id, err := s.Spawn()
		return fmt.Sprint(id, " ", int(err))
	case "set":
		return fmt.Sprint(int(s.Set(c.a, c.b)))
	case "join":
		ended, err := s.Join(c.a, c.b)
		return fmt.Sprint(ended, " ", int(err))
	case "end":
		freed, err := s.End(c.a)
		return fmt.Sprint(freed, " ", int(err))
	}
	panic("no such call: " + c.name)
}

// pairing: one that waits for another one's end.
type pairing struct{ id, other int }

// model: the chapter's words, by lists that know nothing of one another. Who was begun and is in none of them is ready.
type model struct {
	begun                   int
	blocked, waiting, ended []int
	joining                 []pairing
}

func (d *model) joins(id int) bool {
	return slices.ContainsFunc(d.joining, func(p pairing) bool { return p.id == id })
}

func (d *model) state(id int) int {
	if !slices.Contains(d.all(), id) {
		return 0
	}
	if slices.Contains(d.blocked, id) {
		return 2
	}
	if slices.Contains(d.waiting, id) {
		return 3
	}
	if d.joins(id) {
		return 4
	}
	if slices.Contains(d.ended, id) {
		return 5
	}
	return 1
}

func (d *model) all() []int {
	var all []int
	for n := range d.begun {
		all = append(all, n+1)
	}
	return all
}

func (d *model) ready() []int {
	return slices.DeleteFunc(d.all(), func(id int) bool { return d.state(id) != 1 })
}

func without(list []int, id int) []int {
	return slices.DeleteFunc(slices.Clone(list), func(one int) bool { return one == id })
}

func (d *model) set(id, state int) string {
	if now := d.state(id); now == 0 || now == 5 || now == 4 {
		return "140"
	}
	if state != 1 && state != 2 && state != 3 {
		return "140"
	}
	d.blocked, d.waiting = without(d.blocked, id), without(d.waiting, id)
	if state == 2 {
		d.blocked = append(d.blocked, id)
	}
	if state == 3 {
		d.waiting = append(d.waiting, id)
	}
	return "0"
}

func (d *model) join(id, other int) string {
	if d.state(id) == 0 || d.state(other) == 0 || !slices.Contains(d.ready(), id) {
		return "false 140"
	}
	if slices.Contains(d.ended, other) {
		return "true 0"
	}
	d.joining = append(slices.Clone(d.joining), pairing{id, other})
	return "false 0"
}

func (d *model) end(id int) string {
	if !slices.Contains(d.ready(), id) {
		return "[] 140"
	}
	d.ended = append(slices.Clone(d.ended), id)
	var freed []int
	var left []pairing
	for _, p := range d.joining {
		if p.other == id {
			freed = append(freed, p.id)
		} else {
			left = append(left, p)
		}
	}
	d.joining = left
	slices.Sort(freed)
	return fmt.Sprint(freed, " 0")
}

func (d *model) run(c call) string {
	switch c.name {
	case "spawn":
		if d.begun == 12 {
			return "0 140"
		}
		d.begun++
		return fmt.Sprint(d.begun, " 0")
	case "set":
		return d.set(c.a, c.b)
	case "join":
		return d.join(c.a, c.b)
	case "end":
		return d.end(c.a)
	}
	panic("no such call: " + c.name)
}

// pick: the remainder by numbers of any length, which never wrap.
func (d *model) pick(n int) (int, bool) {
	ready := d.ready()
	if len(ready) == 0 {
		return 0, false
	}
	place := new(big.Int).Mod(big.NewInt(int64(n)), big.NewInt(int64(len(ready))))
	return ready[place.Int64()], true
}

// key: a text that two models have in common if no call can tell them apart.
func (d *model) key() string {
	lists := [][]int{slices.Clone(d.blocked), slices.Clone(d.waiting), slices.Clone(d.ended)}
	for _, list := range lists {
		slices.Sort(list)
	}
	joining := slices.Clone(d.joining)
	slices.SortFunc(joining, func(p, q pairing) int { return p.id - q.id })
	return fmt.Sprint(d.begun, lists, joining)
}

// wrongs: what is no thread's number, however many there are.
func wrongs() []int {
	return []int{0, -1, -2, -12, -13, 13, 14, 255, 256, 257, 1<<16 + 1, math.MinInt32, math.MaxInt32, 1 << 32, 1<<32 + 1, -1 << 32, -1<<32 + 1, math.MinInt, math.MinInt + 1, math.MinInt + 12, math.MaxInt - 1, math.MaxInt}
}

// numbers: all that may be one, and some that aren't.
func numbers() []int {
	return append([]int{1, 2, 3, 4, 5, 6, 7, 8, 9, 10, 11, 12}, wrongs()...)
}

// picks: numbers to pick by, which wrap if they are counted on by hand.
func picks() []int {
	list := []int{math.MinInt, math.MinInt + 1, math.MinInt + 11, math.MinInt32, -1 << 32, 1<<32 + 1, math.MaxInt32, math.MaxInt - 11, math.MaxInt - 1, math.MaxInt}
	for n := -26; n <= 26; n++ {
		list = append(list, n)
	}
	return list
}

// pair: a Sched and the model, told the same.
type pair struct {
	t    testing.TB
	s    *Sched
	d    model
	done []call
}

func newPair(t testing.TB) *pair { return &pair{t: t, s: New()} }

func (p *pair) run(c call) string {
	p.t.Helper()
	p.done = append(p.done, c)
	got, want := run(p.s, c), p.d.run(c)
	if got != want {
		p.t.Fatalf("P14.1: %v: %s, not %s", p.done, got, want)
	}
	return got
}

// same: all that both tell.
func (p *pair) same(ids, picks []int) {
	p.t.Helper()
	for _, id := range ids {
		if got, want := p.s.State(id), p.d.state(id); got != want {
			p.t.Fatalf("P14.1: %v: %d's state is %d, not %d", p.done, id, got, want)
		}
	}
	if got, want := p.s.Ready(), p.d.ready(); !slices.Equal(got, want) {
		p.t.Fatalf("P14.2: %v: ready are %v, not %v", p.done, got, want)
	}
	for _, n := range picks {
		got, ok := p.s.Pick(n)
		want, some := p.d.pick(n)
		if got != want || ok != some {
			p.t.Fatalf("P14.2: %v: Pick(%d): %d, %t, not %d, %t", p.done, n, got, ok, want, some)
		}
		if ok && p.s.State(got) != api.Ready {
			p.t.Fatalf("P14.3: %v: Pick(%d): %d, which is in state %d", p.done, n, got, p.s.State(got))
		}
	}
	if got := p.s.Len(); got != p.d.begun {
		p.t.Fatalf("P14.2: %v: %d were begun, not %d", p.done, got, p.d.begun)
	}
	over := len(p.d.ended) == p.d.begun
	stuck := !over && len(p.d.ready()) == 0
	if p.s.Over() != over || p.s.Stuck() != stuck {
		p.t.Fatalf("P14.2: %v: over %t, stuck %t, not %t, %t", p.done, p.s.Over(), p.s.Stuck(), over, stuck)
	}
}

// calls: each of the calls with each of these numbers and states.
func calls(ids, states []int) []call {
	list := []call{{"spawn", 0, 0}}
	for _, id := range ids {
		for _, state := range states {
			list = append(list, call{"set", id, state})
		}
		for _, other := range ids {
			list = append(list, call{"join", id, other})
		}
		list = append(list, call{"end", id, 0})
	}
	return list
}

// every: each state that can be come to with so many threads, and each call in each of them: how many states there are.
func every(t *testing.T, most int) int {
	t.Helper()
	var ids []int
	for id := -1; id <= most+1; id++ {
		ids = append(ids, id)
	}
	all := calls(ids, []int{-1, 0, 1, 2, 3, 4, 5, 6})
	known := map[string]bool{}
	ways := [][]call{nil}
	for len(ways) > 0 {
		way := ways[0]
		ways = ways[1:]
		for _, c := range all {
			p := newPair(t)
			for _, before := range way {
				p.run(before)
			}
			if c.name == "spawn" && p.d.begun == most {
				continue
			}
			p.run(c)
			p.same(ids, []int{-4, -3, -2, -1, 0, 1, 2, 3, 4})
			if k := p.d.key(); !known[k] {
				known[k] = true
				ways = append(ways, p.done)
			}
		}
	}
	return len(known)
}

func TestEachStateOfFewThreads(t *testing.T) {
	for most, least := range []int{0, 5, 25, 190} {
		if n := every(t, most); n < least {
			t.Fatalf("%d threads: %d states alone", most, n)
		}
	}
}

// drawn: calls at random, with numbers that may not be among them.
func drawn(r *rand.Rand, ids []int) call {
	one, other := ids[r.Intn(len(ids))], ids[r.Intn(len(ids))]
	switch r.Intn(12) {
	case 0, 1:
		return call{"spawn", 0, 0}
	case 2, 3, 4:
		return call{"join", one, other}
	case 5:
		return call{"end", one, 0}
	case 6:
		return call{"set", one, ids[r.Intn(len(ids))]}
	}
	return call{"set", one, r.Intn(5)}
}

func TestDrawnCalls(t *testing.T) {
	ids, places := numbers(), picks()
	for seed := range 60 {
		r := rand.New(rand.NewSource(int64(seed)))
		p := newPair(t)
		some := ids[:1+r.Intn(len(ids))]
		for range 200 {
			p.run(drawn(r, some))
			p.same(ids, places)
		}
	}
}
