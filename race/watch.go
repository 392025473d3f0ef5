package race

import "loom/api"

func isThread(id int) bool { return id >= 1 && id <= api.MaxThreads }

// now: a thread's clock.
func (w *Watch) now(thread int) numbers {
	c, ok := w.clocks[place{kind: ofThread, thread: thread}]
	if !ok {
		c[thread] = 1
	}
	return c
}

func (w *Watch) keep(p place, c numbers) {
	if w.clocks == nil {
		w.clocks = map[place]numbers{}
	}
	w.clocks[p] = c
}

func (w *Watch) learn(thread int, c numbers) {
	w.keep(place{kind: ofThread, thread: thread}, w.now(thread).join(c))
}

// tick: what a thread does from here on isn't known to those who know it up to here.
func (w *Watch) tick(thread int) {
	c := w.now(thread)
	c[thread]++
	w.keep(place{kind: ofThread, thread: thread}, c)
}

func (w *Watch) acquire(thread int, from place) {
	if isThread(thread) {
		w.learn(thread, w.clocks[from])
	}
}

func (w *Watch) release(thread int, to place) {
	if isThread(thread) {
		w.keep(to, w.clocks[to].join(w.now(thread)))
		w.tick(thread)
	}
}

// touch: a plain word is read or written: whether that is a race.
func (w *Watch) touch(p place) bool {
	if !isThread(p.thread) {
		return false
	}
	w.keep(p, w.now(p.thread))
	if w.unordered(p, ofWrite) || p.kind == ofWrite && w.unordered(p, ofRead) {
		w.races++
		return true
	}
	return false
}

// unordered: whether another thread touched the word in that way, and p's thread doesn't know it. The last time of each thread tells of all: a clock never falls, so that who knows the last one knows the earlier ones.
func (w *Watch) unordered(p place, kind int) bool {
	now := w.now(p.thread)
	other := place{kind: kind, at: p.at, i: p.i}
next:
	if other.thread == api.MaxThreads {
		return false
	}
	other.thread++
	if other.thread == p.thread || w.clocks[other].before(now) {
		goto next
	}
	return true
}
