package race

import (
	"fmt"
	"math"
	"math/rand"
	"slices"
	"testing"

	"loom/api"
)

// at: a clock's number by the chapter's words: a shorter one's others are 0.
func at(c Clock, n int) int {
	if n < len(c) {
		return c[n]
	}
	return 0
}

// wantBefore, wantJoin: the chapter's words, number by number.
func wantBefore(a, b Clock) bool {
	for n := 0; n <= 12; n++ {
		if !(at(a, n) <= at(b, n)) {
			return false
		}
	}
	return true
}

func wantJoin(a, b Clock) Clock {
	var j Clock
	for n := 0; n <= 12; n++ {
		if at(a, n) > at(b, n) {
			j = append(j, at(a, n))
		} else {
			j = append(j, at(b, n))
		}
	}
	return j
}

// alone: a clock of some length with one number that isn't 0.
func alone(length, n, v int) Clock {
	c := make(Clock, length)
	c[n] = v
	return c
}

func TestTheClocksOfTheChapter(t *testing.T) {
	if api.MaxThreads != 12 {
		t.Fatalf("MaxThreads is %d", api.MaxThreads)
	}
	for n, row := range []struct {
		a, b Clock
		want bool
	}{
		{nil, nil, true}, {Clock{}, nil, true}, {nil, Clock{}, true},
		{Clock{0}, nil, true}, {nil, Clock{0, 0}, true},
		{Clock{1}, nil, false}, {nil, Clock{1}, true},
		{Clock{-1}, nil, true}, {nil, Clock{-1}, false},
		{Clock{-2}, Clock{-1}, true}, {Clock{-1}, Clock{-2}, false}, {Clock{-1}, Clock{-1}, true},
		{Clock{1, 2}, Clock{1, 2, 3}, true}, {Clock{1, 2, 3}, Clock{1, 2}, false},
		{Clock{1, 2, -3}, Clock{1, 2}, true}, {Clock{1, 2}, Clock{1, 2, -3}, false},
		{Clock{2, 1}, Clock{1, 2}, false}, {Clock{1, 2}, Clock{2, 1}, false}, {Clock{1, 1}, Clock{2, 1}, true},
		{Clock{math.MinInt}, Clock{math.MaxInt}, true}, {Clock{math.MaxInt}, Clock{math.MinInt}, false},
		{Clock{math.MinInt}, nil, true}, {Clock{math.MaxInt}, nil, false},
	} {
		if got := row.a.Before(row.b); got != row.want {
			t.Errorf("P17.1: row %d: %v before %v: %t", n, row.a, row.b, got)
		}
	}
}

func TestTheJoinsOfTheChapter(t *testing.T) {
	for _, row := range []struct {
		a, b Clock
		want string
	}{
		{nil, nil, "[0 0 0 0 0 0 0 0 0 0 0 0 0]"},
		{Clock{}, Clock{0, 0}, "[0 0 0 0 0 0 0 0 0 0 0 0 0]"},
		{Clock{1, 5}, Clock{3, 2, 4}, "[3 5 4 0 0 0 0 0 0 0 0 0 0]"},
		{Clock{3, 2, 4}, Clock{1, 5}, "[3 5 4 0 0 0 0 0 0 0 0 0 0]"},
		{Clock{-1, -5}, Clock{-3, 2}, "[-1 2 0 0 0 0 0 0 0 0 0 0 0]"},
		{Clock{-1, -5}, nil, "[0 0 0 0 0 0 0 0 0 0 0 0 0]"},
		{nil, Clock{-1, 5, -7}, "[0 5 0 0 0 0 0 0 0 0 0 0 0]"},
		{Clock{1, 2, 3, 4, 5, 6, 7, 8, 9, 10, 11, 12, 13}, nil, "[1 2 3 4 5 6 7 8 9 10 11 12 13]"},
		{Clock{1, 2, 3, 4, 5, 6, 7, 8, 9, 10, 11, 12, 13, 14, 15}, Clock{0, 9, 0, 9}, "[1 9 3 9 5 6 7 8 9 10 11 12 13]"},
		{Clock{math.MinInt, math.MaxInt}, Clock{math.MinInt, math.MinInt}, "[-9223372036854775808 9223372036854775807 0 0 0 0 0 0 0 0 0 0 0]"},
	} {
		if got := fmt.Sprint(Join(row.a, row.b)); got != row.want {
			t.Errorf("P17.1: Join(%v, %v): %s, not %s", row.a, row.b, got, row.want)
		}
	}
}

// Each of a clock's numbers counts by itself, the first and the last one too; what a list has behind them is no number of the clock.
func TestEachNumberOfAClock(t *testing.T) {
	for length := 1; length <= 40; length++ {
		for n := range length {
			more, less := alone(length, n, 1), alone(length, n, -1)
			counts := n <= api.MaxThreads
			if more.Before(nil) == counts || !more.Before(more) || !Clock(nil).Before(more) || !less.Before(more) {
				t.Errorf("P17.1: %v", more)
			}
			if !less.Before(nil) || Clock(nil).Before(less) == counts || more.Before(less) == counts {
				t.Errorf("P17.1: %v", less)
			}
			for _, j := range []Clock{Join(more, nil), Join(nil, more), Join(more, less), Join(less, more)} {
				want := make(Clock, 13)
				if counts {
					want[n] = 1
				}
				if !slices.Equal(j, want) {
					t.Errorf("P17.1: of %v: %v", more, j)
				}
			}
		}
	}
}

// small: all clocks with up to so many numbers, each one of these.
func small(length int, values []int) []Clock {
	all, last := []Clock{nil}, []Clock{nil}
	for range length {
		var longer []Clock
		for _, c := range last {
			for _, v := range values {
				longer = append(longer, append(slices.Clone(c), v))
			}
		}
		all, last = append(all, longer...), longer
	}
	return all
}

func TestAllSmallClocks(t *testing.T) {
	all := small(3, []int{-1, 0, 1, 2})
	for _, a := range all {
		for _, b := range all {
			sameClocks(t, a, b)
		}
	}
}

// sameClocks: Before and Join as the model tells, and what the one says of the other: what they join to is the least that both are before.
func sameClocks(t testing.TB, a, b Clock) {
	t.Helper()
	if got, want := a.Before(b), wantBefore(a, b); got != want {
		t.Fatalf("P17.1: %v before %v: %t, not %t", a, b, got, want)
	}
	j := Join(a, b)
	if want := wantJoin(a, b); !slices.Equal(j, want) {
		t.Fatalf("P17.1: Join(%v, %v): %v, not %v", a, b, j, want)
	}
	if len(j) != api.MaxThreads+1 || !a.Before(j) || !b.Before(j) {
		t.Fatalf("P17.1: Join(%v, %v): %v: not both are before it", a, b, j)
	}
	for n := range j {
		less := slices.Clone(j)
		if less[n]--; j[n] != math.MinInt && a.Before(less) && b.Before(less) {
			t.Fatalf("P17.1: Join(%v, %v): %v: both are before %v too", a, b, j, less)
		}
	}
}

func TestDrawnClocks(t *testing.T) {
	r := rand.New(rand.NewSource(17))
	values := []int{math.MinInt, math.MinInt + 1, math.MinInt32, -1 << 32, -2, -1, 0, 0, 1, 2, 255, 256, math.MaxInt32, 1 << 32, math.MaxInt - 1, math.MaxInt}
	draw := func() Clock {
		c := make(Clock, r.Intn(31))
		for n := range c {
			c[n] = values[r.Intn(len(values))]
		}
		return c
	}
	for range 20000 {
		a, b := draw(), draw()
		sameClocks(t, a, b)
		// One that is like it but for a few numbers: most are before one another then.
		b = slices.Clone(a)
		for range r.Intn(3) {
			if len(b) > 0 {
				b[r.Intn(len(b))] += r.Intn(3) - 1
			}
		}
		sameClocks(t, a, b[:r.Intn(len(b)+1)])
		sameClocks(t, b, a)
	}
}
