package vm

import (
	"fmt"
	"math/rand"
	"strings"
	"testing"

	"loom/api"
	"loom/interp"
	"loom/link"
)

// parts of which drawn methods are made: each leaves stack and locks as they were; its local 0 is a D. Labels are told apart by @.
var parts = strings.Split(strings.TrimSpace(`
load 0; getfield D.n; out
load 0; dup; getfield D.n; pushint 1; add; putfield D.n
load 0; load 0; getfield D.v; pushint 3; mul; pushint 1; add; putfield D.v; load 0; getfield D.v; out
enter 0; load 0; dup; getfield D.n; yield; pushint 1; add; putfield D.n; exit 0
enter 0; enter 0x; exit 0x; exit 0
enter 0; load 0; notify; exit 0
enter 0; load 0; notifyall; exit 0
enter 0; load 0; wait; exit 0
a@: load 0; notify; b@: goto d@; c@: pop; pushint 6; out; d@: nop; catch a@ b@ c@ 0 Fault
a@: enter 0; null; throw; b@: pop; pushint 1; out; catch a@ b@ b@ 0
load 0; call D.next; putlink
load 0; call D.next; join@
pushint 9; newarr; store 5; load 5; pushint 2; pushint 8; arrput; load 5; pushint 2; arrget; out
a@: pushint 3; newarr; pushint 3; arrget; b@: out; goto d@; c@: pop; d@: nop; catch a@ b@ c@ 0 Fault
load 0; spawn D.other; out
load 0; spawn D.other; join
pushcplx 1+2i; dup; cmul; outc
load 0; cast E; pop
yield
`), "\n")

// drawn: a program of some methods, with parts by chance; all that is drawn is told by the seed.
func drawn(seed int64) string {
	draw := rand.New(rand.NewSource(seed))
	count := 0
	body := func(length int) string {
		var words []string
		for range length {
			part := parts[draw.Intn(len(parts))]
			part = strings.NewReplacer("enter 0x; exit 0x", "load 0; store 6; enter 6; exit 6", "putlink", "store 4; load 0; load 4; putfield D.o", "join@", "pop", "@", fmt.Sprint(count)).Replace(part)
			words = append(words, part)
			count++
		}
		return strings.Join(words, "; ")
	}
	text := "D: n int, v int volatile, o D\nE < D\nD.next() D: load 0; getfield D.o; retval\nD.other() void: " + body(2) + "; ret\nE.other() void: " + body(3) + "; ret\n"
	text += "D.long() void: " + body(5+draw.Intn(5)) + "; ret\nD.begin() void: load 0; spawn D.long; pop; new D; spawn D.long; pop; load 0; spawn D.long; pop; " + body(5) + "; ret\n"
	return text + "Main\nMain.main() void: new " + []string{"D", "E"}[draw.Intn(2)] + "; call D.begin; ret"
}

// picksOf: numbers of all sizes.
func picksOf(seed int64, count int) []int {
	draw := rand.New(rand.NewSource(seed))
	var list []int
	for range count {
		n := int(draw.Uint64() >> draw.Intn(64))
		if draw.Intn(2) == 0 {
			n = -n
		}
		list = append(list, n)
	}
	return list
}

// Held against a machine that is stepped by its threads' numbers.
func TestHeldAgainstStepsOfThreads(t *testing.T) {
	kinds := map[int]int{}
	for seed := range int64(100) {
		l := classesOf(t, drawn(seed))
		words := 20 + int(seed)*3
		p, err := link.Link(l)
		if err != api.OK {
			t.Fatalf("Link of %s: %d", drawn(seed), err)
		}
		m, err := interp.New(p, words, false)
		if err != api.OK {
			t.Fatalf("New of %s: %d", drawn(seed), err)
		}
		v := begun(t, words, drawn(seed))
		for _, n := range picksOf(seed, 400) {
			over := m.Over()
			if !over {
				ready := m.Ready()
				m.Step(ready[place(n, len(ready))])
			}
			is(t, "P16.1: Pick", v.Pick(n), !over)
			is(t, "P16.1: the threads", fmt.Sprintf("%+v", v.Machine().Threads()), fmt.Sprintf("%+v", m.Threads()))
			is(t, "P16.1: Events", events(v.Events()), events(m.Events()))
			if t.Failed() {
				t.Fatalf("of %s", drawn(seed))
			}
		}
		for _, e := range v.Events() {
			kinds[e.Kind]++
		}
	}
	for kind := api.EOut; kind <= api.ELimit; kind++ {
		if kinds[kind] == 0 {
			t.Errorf("no event of kind %d was drawn: %v", kind, kinds)
		}
	}
}

// P16.2: however the picks are handed in, by classes or files, whatever was asked in between.
func TestTheSameEvents(t *testing.T) {
	for seed := range int64(60) {
		picks := picksOf(seed+1000, 500)
		l := classesOf(t, drawn(seed))
		words := 30 + int(seed)*7
		one, _ := New(filesOf(t, l), words)
		two, _ := New(filesOf(t, l), words)
		three, _ := Of(l, words)
		many := one.Run(picks)
		for n, k := range picks {
			is(t, "P16.2: Pick", two.Pick(k), n < many)
			two.Seen(k)
			two.Machine().Threads()
			two.Events()
		}
		for at := 0; at < len(picks); at += 9 {
			three.Run(picks[at:min(at+9, len(picks))])
		}
		is(t, "P16.2: the same events", events(two.Events()), events(one.Events()))
		is(t, "P16.2: the same of classes", events(three.Events()), events(one.Events()))
		is(t, "P16.2: the same machine", all(two), all(one))
		is(t, "P16.2: the same machine of classes", all(three), all(one))
		is(t, "P16.2: the same to the end", fmt.Sprint(Drain(two, 2000), events(two.Events())), fmt.Sprint(Drain(one, 2000), events(one.Events())))
	}
}

// Other picks, other words, another program may have other events: what is the same isn't so by being nothing.
func TestOtherPicksOtherEvents(t *testing.T) {
	seen := map[string]bool{}
	for seed := range int64(20) {
		v := roomy(t, busy)
		v.Run(picksOf(seed, 400))
		seen[events(v.Events())] = true
	}
	is(t, "many outcomes", len(seen) > 10, true)
}

// At the same time, too: nothing is written that two machines have.
func TestMachinesAtTheSameTime(t *testing.T) {
	const many = 8
	l := classesOf(t, busy)
	files := filesOf(t, l)
	picks := picksOf(5, 300)
	run := func(n int) string {
		var v *VM
		if n%2 == 0 {
			v, _ = New(files, 300)
		} else {
			v, _ = Of(l, 300)
		}
		text := fmt.Sprint(v.Run(picks), Drain(v, 200))
		return text + all(v)
	}
	want := run(0)
	got := make([]string, many)
	done := make(chan int)
	for n := range many {
		go func() {
			got[n] = run(n)
			done <- n
		}()
	}
	for range many {
		<-done
	}
	for n := range many {
		is(t, "P16.2: the same, whoever else runs", got[n], want)
	}
}
