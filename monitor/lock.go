package monitor

// waiter: a thread in a list, and the count that it has when it gets the lock. It stands here and not by thread alone: a thread may wait for several locks, as one that stands in line for one may still be another's owner.
type waiter struct{ thread, count int }

type lock struct {
	owner, count int // 0, 0: free; then nobody is in entry
	fat          bool
	entry, wait  []waiter // who has stood longest first
}

func (l *lock) idle() bool { return l.owner == 0 && len(l.wait) == 0 }

func threads(list []waiter) []int {
	var all []int
	for _, w := range list {
		all = append(all, w.thread)
	}
	return all
}

// place: the lock of an object, a free one if there is none yet.
func (t *Table) place(at int) *lock {
	// Here and not in New, so that a zero Table is one as well: whatever is stored, a lock was placed ahead of it.
	if t.locks == nil {
		t.locks, t.stands = map[int]*lock{}, map[int]int{}
	}
	l := t.locks[at]
	if l == nil {
		l = &lock{}
		t.locks[at] = l
	}
	return l
}

// owned: the lock of an object, if a thread is its owner, else nil. A free lock's owner is 0, and yet no thread of that number.
func (t *Table) owned(at, thread int) *lock {
	l := t.locks[at]
	if l == nil || l.owner == 0 || l.owner != thread {
		return nil
	}
	return l
}

// handOver: a lock is taken from its owner, and given to the first in line: who that is, or 0.
func (t *Table) handOver(at int, l *lock) int {
	if len(l.entry) == 0 {
		l.owner, l.count = 0, 0
		if !l.fat {
			delete(t.locks, at)
		}
		return 0
	}
	first := l.entry[0]
	l.entry = l.entry[1:]
	l.owner, l.count = first.thread, first.count
	t.leave(first.thread)
	return first.thread
}

// leave: a thread stands in one list less.
func (t *Table) leave(thread int) {
	t.stands[thread]--
	if t.stands[thread] == 0 {
		delete(t.stands, thread)
	}
}
