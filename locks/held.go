package locks

import (
	"slices"

	"loom/api"
)

// held: the locals that are locked, the last one last. What is behind them is zero: two that hold the same are equal.
type held struct {
	count  int
	locals [api.MaxLocks]int
}

func (h held) has(local int) bool { return slices.Contains(h.locals[:h.count], local) }

func (h held) isLast(local int) bool { return h.count > 0 && h.locals[h.count-1] == local }

// with: one more; there must be room for it.
func (h held) with(local int) held {
	h.locals[h.count] = local
	h.count++
	return h
}

// first: so many of them, of which there must be as many.
func (h held) first(count int) held {
	clear(h.locals[count:])
	h.count = count
	return h
}

// list: memory of its own each time.
func (h held) list() []int { return append([]int(nil), h.locals[:h.count]...) }
