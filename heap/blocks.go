package heap

import (
	"loom/api"
)

// A block's first word is all that every block has, as a free one may have no more: its length (all its words, this one too) times two, and what it is. An object's class is in the word behind it.
const (
	free   = 0
	object = 1
)

// lengthOf, classOf, wordOf: where in the list of words, which begins with address 1.

func lengthOf(at int) int { return at - 1 }

func classOf(at int) int { return at }

func wordOf(at, i int) int { return at - 1 + api.Header + i }

// lay: a block of that length begins at an address.
func (h *Heap) lay(at, length int, what uint64) {
	h.words[lengthOf(at)] = uint64(length)<<1 | what
}

func (h *Heap) length(at int) int { return int(h.words[lengthOf(at)] >> 1) }

func (h *Heap) isObject(at int) bool { return h.words[lengthOf(at)]&1 == object }

// begins: whether an object begins at an address. A word within an object may look like the first one of a block: only a walk along the blocks can tell.
func (h *Heap) begins(at int) bool {
	block := 1
next:
	if block > len(h.words) || block > at {
		return false
	}
	if block == at {
		return h.isObject(at)
	}
	block += h.length(block)
	goto next
}

// has: whether an object begins at an address, and has a word i.
func (h *Heap) has(at, i int) bool {
	return h.begins(at) && i >= 0 && i < h.length(at)-api.Header
}

// room: the first free block that takes an object of so many words; 0, if there is none.
func (h *Heap) room(words int) int {
	at := 1
next:
	if at > len(h.words) {
		return 0
	}
	// The header is taken off, not put on: words may be the greatest int there is.
	if !h.isObject(at) && h.length(at)-api.Header >= words {
		return at
	}
	at += h.length(at)
	goto next
}

// place: an object at the beginning of a free block that has room for it; the words that are left stay free.
func (h *Heap) place(at, class, words int) {
	length := words + api.Header
	if left := h.length(at) - length; left > 0 {
		h.lay(at+length, left, free)
	}
	h.lay(at, length, object)
	h.words[classOf(at)] = uint64(class)
	clear(h.words[wordOf(at, 0):wordOf(at, words)])
}

// join: free blocks that touch become one.
func (h *Heap) join() {
	at := 1
next:
	if at > len(h.words) {
		return
	}
	end := at + h.length(at)
	if end <= len(h.words) && !h.isObject(at) && !h.isObject(end) {
		h.lay(at, h.length(at)+h.length(end), free)
	} else {
		at = end
	}
	goto next
}
