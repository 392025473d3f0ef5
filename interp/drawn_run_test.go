package interp

import (
	"math/rand"
	"testing"

	"loom/api"
	"loom/link"
	"loom/locks"
)

// tally: what came of many programs.
type tally struct {
	drawn, accepted, runs, steps, collections, flushes int
	ran                                                [api.Ops]int
	faults                                             [api.FSize + 1]int
	kinds                                              [api.ELimit + 1]int
	states                                             [api.Ended + 1]int
}

// run: some picks of a program, held against the model at each step.
func (s *tally) run(t *testing.T, r *rand.Rand, l []api.Class, text string) {
	p := newPair(t, l, 50+r.Intn(20+r.Intn(300)), r.Intn(2) == 0, text)
	for n := 0; n < 400 && !p.d.over; n++ {
		ready := p.d.ready()
		id := ready[r.Intn(len(ready))]
		if r.Intn(20) == 0 {
			id = r.Intn(14) - 1
		}
		p.step(id)
		if p.d.weak && r.Intn(4) == 0 {
			p.flush(r.Intn(len(p.d.actors) + 2))
			s.flushes++
		}
		p.same()
		if n%20 == 0 {
			p.sameHeap()
		}
		s.steps++
		for _, a := range p.d.actors {
			s.states[a.state]++
		}
	}
	p.sameHeap()
	s.runs++
	s.collections += p.d.collections
	for op, count := range p.d.ran {
		s.ran[op] += count
	}
	for code, count := range p.d.faults {
		s.faults[code] += count
	}
	for _, e := range p.d.events {
		s.kinds[e.Kind]++
	}
}

// held: each of so many programs that is accepted is run so many times; of others New tells what is wrong.
func held(t *testing.T, count, runs int, draw func(number int) string) *tally {
	s := &tally{drawn: count}
	for number := range count {
		text := draw(number)
		l := classesOf(t, text)
		p, err := link.Link(l)
		if err != api.OK {
			t.Fatalf("program %d doesn't fit together: %d: %s", number, err, text)
		}
		if err := locks.All(p); err != api.OK {
			if m, got := New(p, 100, false); m != nil || got != err {
				t.Fatalf("P15.1: New of program %d: %v, %d, not %d: %s", number, m, got, err, text)
			}
			continue
		}
		s.accepted++
		r := rand.New(rand.NewSource(int64(number)))
		for range runs {
			s.run(t, r, l, text)
		}
	}
	return s
}

// enough: or nothing is said.
func enough(t *testing.T, what string, counts []int, from, least int) {
	t.Helper()
	for n := from; n < len(counts); n++ {
		if counts[n] < least {
			t.Errorf("too few %s: %d of %d: %v", what, counts[n], n, counts)
		}
	}
}

// No instruction of what is accepted is stuck: each value is of its type, each stack as its states say, and all is as the chapter's words have it.
func TestDrawnPrograms(t *testing.T) {
	s := held(t, 500, 3, drawn)
	enough(t, "steps of an op", s.ran[:], 0, 10)
	enough(t, "faults of a code", s.faults[:], 1, 5)
	enough(t, "events of a kind", s.kinds[:], 1, 20)
	enough(t, "threads in a state", s.states[:], 1, 1000)
	enough(t, "programs, runs, steps, collections, flushes", []int{s.accepted, s.runs, s.steps / 10, s.collections, s.flushes / 10}, 0, 400)
}

func TestWildPrograms(t *testing.T) {
	s := held(t, 2500, 2, func(number int) string { return world + wildText(number) })
	enough(t, "steps of an op", s.ran[:], 0, 1)
	enough(t, "programs, runs, steps, collections, flushes", []int{s.accepted, s.runs, s.steps / 50, s.collections * 10, s.flushes / 10}, 0, 1000)
	if s.accepted == s.drawn {
		t.Error("all programs are accepted")
	}
}
