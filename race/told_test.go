package race

import (
	"fmt"
	"math"
	"slices"
	"strings"
	"testing"

	"loom/api"
)

// call: one call that may change a watch. a is the other thread, or the object; b the word.
type call struct {
	name         string // begin, end, joined, acquire, release, read, write, vread, vwrite
	thread, a, b int
}

// run: what a call answers, as a text: empty, if it answers nothing.
func run(w *Watch, c call) string {
	switch c.name {
	case "begin":
		w.Begin(c.thread, c.a)
	case "end":
		w.End(c.thread)
	case "joined":
		w.Joined(c.thread, c.a)
	case "acquire":
		w.Acquire(c.thread, c.a)
	case "release":
		w.Release(c.thread, c.a)
	case "read", "vread":
		return fmt.Sprint(w.Read(c.thread, c.a, c.b, c.name == "vread"))
	case "write", "vwrite":
		return fmt.Sprint(w.Write(c.thread, c.a, c.b, c.name == "vwrite"))
	default:
		panic("no such call: " + c.name)
	}
	return ""
}

// after: a watch that was told these calls.
func after(list ...call) *Watch {
	w := New()
	for _, c := range list {
		run(w, c)
	}
	return w
}

// say: a clock as a text: its numbers, without the noughts at its end.
func say(c Clock) string {
	c = slices.Clone(c)
	for len(c) > 0 && c[len(c)-1] == 0 {
		c = c[:len(c)-1]
	}
	return fmt.Sprint([]int(c))
}

// text: the clocks of all threads, and how many races there were.
func text(w *Watch) string {
	var s []string
	for id := 1; id <= api.MaxThreads; id++ {
		s = append(s, say(w.Clock(id)))
	}
	return strings.Join(s, " ") + fmt.Sprint(" ", w.Races())
}

// first: what the threads' clocks are ahead of all calls.
func first(t testing.TB) string {
	t.Helper()
	want := "[0 1] [0 0 1] [0 0 0 1] [0 0 0 0 1] [0 0 0 0 0 1] [0 0 0 0 0 0 1] [0 0 0 0 0 0 0 1] [0 0 0 0 0 0 0 0 1] [0 0 0 0 0 0 0 0 0 1] [0 0 0 0 0 0 0 0 0 0 1] [0 0 0 0 0 0 0 0 0 0 0 1] [0 0 0 0 0 0 0 0 0 0 0 0 1] 0"
	if got := text(New()); got != want {
		t.Fatalf("P17.1: at first: %s", got)
	}
	return want
}

// stays: a call that answers that, and changes neither a clock nor the races.
func stays(t testing.TB, w *Watch, promise string, c call, want string) {
	t.Helper()
	before := text(w)
	if got := run(w, c); got != want {
		t.Fatalf("%s: %v: %s, not %s", promise, c, got, want)
	}
	if got := text(w); got != before {
		t.Fatalf("%s: %v made of %s: %s", promise, c, before, got)
	}
}

// step: a call, what it answers, and the clocks of the first threads behind it, as many as the text has.
type step struct {
	call
	answer, clocks string
}

// walk: calls one behind the other.
func walk(t testing.TB, w *Watch, promise string, steps []step) {
	t.Helper()
	for n, s := range steps {
		if got := run(w, s.call); got != s.answer {
			t.Fatalf("%s: step %d: %v: %q, not %q", promise, n, s.call, got, s.answer)
		}
		if got := text(w); !strings.HasPrefix(got, s.clocks+" ") {
			t.Fatalf("%s: step %d: %v: %s, not %s", promise, n, s.call, got, s.clocks)
		}
	}
}

// none: what is no thread's number.
func none() []int {
	return []int{0, -1, -2, -12, 13, 14, 25, 99, 256 + 1, 1<<32 + 1, math.MinInt32, math.MaxInt32, math.MinInt, math.MinInt + 1, math.MaxInt}
}

// rights: numbers of objects and of words, of whatever size, that a watch may not mix up.
func rights() []int {
	return []int{0, 1, 2, 3, 7, 12, 13, -1, -2, 255, 256, 257, 1 << 16, math.MaxInt32, math.MinInt32, 1 << 32, 1<<32 + 1, -1 << 32, math.MinInt, math.MinInt + 1, math.MaxInt - 1, math.MaxInt}
}

// words: what a call may touch, each number as the object and as the word.
func words() [][2]int {
	var all [][2]int
	for _, at := range rights() {
		for _, i := range rights() {
			all = append(all, [2]int{at, i})
		}
	}
	return all
}
