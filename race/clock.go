package race

import "loom/api"

// Clock: how far each thread is known, at its number.
type Clock []int

// Before: whether each number of c is at most d's.
func (c Clock) Before(d Clock) bool { return whole(c).before(whole(d)) }

// Join: of each two numbers the greater one.
func Join(a, b Clock) Clock { return whole(a).join(whole(b)).list() }

// numbers: all that a clock has. As values they share nothing, whoever keeps them.
type numbers [api.MaxThreads + 1]int

// whole: what a list lacks is 0; what it has behind a clock's last number is no part of the clock.
func whole(c Clock) numbers {
	var all numbers
	copy(all[:], c)
	return all
}

func (c numbers) list() Clock { return c[:] }

func (c numbers) before(d numbers) bool {
	n := 0
next:
	if n == len(c) {
		return true
	}
	if c[n] > d[n] {
		return false
	}
	n++
	goto next
}

func (c numbers) join(d numbers) numbers {
	for n := range c {
		c[n] = max(c[n], d[n])
	}
	return c
}
