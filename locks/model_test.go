package locks

import (
	"math/rand"
	"slices"
	"strconv"
	"strings"
	"testing"

	"loom/api"
)

// come: one way's end: an instruction, and the locals that are locked when it gets there, as words.
type come struct {
	at    int
	locks string
}

// modelOf goes all ways of a method that verify accepts: whether its locks fit, and which there are at each instruction, by texts.
func modelOf(m api.Method) (bool, string) {
	seen := map[come]bool{{0, ""}: true}
	todo := []come{{0, ""}}
	at := make([][]string, len(m.Code))
	for len(todo) > 0 {
		c := todo[0]
		todo = todo[1:]
		at[c.at] = append(at[c.at], c.locks)
		next, ok := nextOf(m, c)
		if !ok || len(at[c.at]) > 1 {
			return false, ""
		}
		for _, n := range next {
			if !seen[n] {
				seen[n] = true
				todo = append(todo, n)
			}
		}
	}
	var words []string
	for _, list := range at {
		switch {
		case len(list) == 0:
			words = append(words, ".")
		case list[0] == "":
			words = append(words, "-")
		default:
			words = append(words, strings.ReplaceAll(list[0], " ", "."))
		}
	}
	return true, strings.Join(words, " ")
}

// nextOf: all that may come next; false, if the instruction may not run, or a handler asks for more than there are.
func nextOf(m api.Method, c come) ([]come, bool) {
	i := m.Code[c.at]
	list := strings.Fields(c.locks)
	local := strconv.Itoa(i.A)
	behind := c.locks
	switch i.Op {
	case api.Enter:
		if slices.Contains(list, local) || len(list) > 5 {
			return nil, false
		}
		behind = strings.TrimSpace(c.locks + " " + local)
	case api.Exit:
		rest, ok := strings.CutSuffix(" "+c.locks, " "+local)
		if !ok {
			return nil, false
		}
		behind = strings.TrimSpace(rest)
	case api.Store:
		if slices.Contains(list, local) {
			return nil, false
		}
	case api.Ret, api.RetVal:
		if c.locks != "" {
			return nil, false
		}
	}
	var next []come
	if !slices.Contains([]int{api.Goto, api.Ret, api.RetVal, api.Throw}, i.Op) {
		next = append(next, come{c.at + 1, behind})
	}
	if slices.Contains([]int{api.Goto, api.IfZero, api.IfOne}, i.Op) {
		next = append(next, come{i.A, behind})
	}
	for _, h := range m.Handlers {
		if h.From <= c.at && c.at < h.To {
			if h.Depth > len(list) {
				return nil, false
			}
			next = append(next, come{h.Target, strings.Join(list[:h.Depth], " ")})
		}
	}
	return next, true
}

// writer of methods by structure: blocks that enter and exit, forks, loops, handlers.
type writer struct {
	random *rand.Rand
	method api.Method
	held   []int
	tries  int // within so many handlers that keep locks
	left   int // so many parts may still be written
}

func (w *writer) emit(op, operand int) int {
	w.method.Code = append(w.method.Code, api.Ins{Op: op, A: operand})
	return len(w.method.Code) - 1
}

func (w *writer) here() int { return len(w.method.Code) }

// jump: to where nobody knows yet; what it tells says it.
func (w *writer) jump(op int) func() {
	at := w.emit(op, 0)
	return func() { w.method.Code[at].A = w.here() }
}

func (w *writer) fork() func() {
	w.emit(api.PushInt, 0)
	return w.jump([]int{api.IfZero, api.IfOne}[w.random.Intn(2)])
}

// free: a local that isn't locked, or 0.
func (w *writer) free() int {
	for range 9 {
		if local := w.random.Intn(7); !slices.Contains(w.held, local) {
			return local
		}
	}
	return 0
}

func (w *writer) exitDownTo(count int) {
	for at := len(w.held) - 1; at >= count; at-- {
		w.emit(api.Exit, w.held[at])
	}
}

func (w *writer) block() {
	for range 1 + w.random.Intn(3) {
		if w.left == 0 || w.here() > 150 {
			return
		}
		w.left--
		w.part()
	}
}

func (w *writer) part() {
	switch w.random.Intn(11) {
	case 0, 1, 2:
		w.locked()
	case 3:
		over := w.fork()
		w.block()
		over()
	case 4:
		other := w.fork()
		w.block()
		over := w.jump(api.Goto)
		other()
		w.block()
		over()
	case 5:
		top := w.here()
		w.emit(api.Nop, 0)
		w.block()
		w.emit(api.PushInt, 0)
		w.emit(api.IfOne, top)
	case 6, 7:
		w.guarded()
	case 8:
		w.leave()
	default:
		w.plain()
	}
}

// locked: one more lock while a block runs, if there may be one.
func (w *writer) locked() {
	local := w.free()
	if slices.Contains(w.held, local) || len(w.held) == api.MaxLocks && w.random.Intn(4) > 0 {
		w.emit(api.Yield, 0)
		return
	}
	w.emit(api.Enter, local)
	w.held = append(w.held, local)
	w.block()
	w.held = w.held[:len(w.held)-1]
	w.emit(api.Exit, local)
}

// guarded: a block with a handler that keeps some locks, and enters the others again or leaves.
func (w *writer) guarded() {
	keep := min(len(w.held), api.MaxLocks)
	if w.random.Intn(3) == 0 {
		keep = w.random.Intn(keep + 1)
	}
	if keep > 0 {
		w.tries++
		defer func() { w.tries-- }()
	}
	h := api.Handler{From: w.here(), Class: -1, Depth: keep}
	w.emit(api.Nop, 0)
	w.block()
	h.To = w.here()
	over := w.jump(api.Goto)
	h.Target = w.here()
	if w.random.Intn(2) == 0 {
		h.Class = 1 + w.random.Intn(3)
	}
	if len(w.method.Handlers) < api.MaxHandlers {
		w.method.Handlers = append(w.method.Handlers, h)
	}
	w.emit(api.Pop, 0)
	for _, local := range w.held[keep:] {
		w.emit(api.Enter, local)
	}
	w.block()
	over()
}

// leave: by all exits and a Ret, or by a Throw; not always.
func (w *writer) leave() {
	over := w.fork()
	if w.tries > 0 && w.random.Intn(9) > 0 || w.random.Intn(2) == 0 {
		w.emit(api.Null, 0)
		w.emit(api.Throw, 0)
	} else {
		w.exitDownTo(0)
		w.emit(api.Ret, 0)
	}
	over()
}

func (w *writer) plain() {
	local := w.free()
	switch w.random.Intn(4) {
	case 0:
		w.emit(api.New, 1)
		w.emit(api.Store, local)
	case 1:
		w.emit(api.Load, w.random.Intn(7))
		w.emit(api.Store, 1+w.random.Intn(7))
	case 2:
		w.emit(api.Null, 0)
		w.emit(api.Pop, 0)
	default:
		w.emit(api.Load, local)
		w.emit(api.Pop, 0)
	}
}

// spoil: an operand of an instruction, or a handler.
func (w *writer) spoil() {
	count := w.here()
	if len(w.method.Handlers) > 0 && w.random.Intn(3) == 0 {
		h := &w.method.Handlers[w.random.Intn(len(w.method.Handlers))]
		switch w.random.Intn(4) {
		case 0:
			h.Depth = w.random.Intn(api.MaxLocks + 1)
		case 1:
			h.To = h.From + 1 + w.random.Intn(count-h.From)
		case 2:
			h.From = w.random.Intn(h.To)
		default:
			h.Target = w.random.Intn(count)
		}
		return
	}
	at := w.random.Intn(count)
	for range 20 {
		if slices.Contains([]int{api.Enter, api.Exit, api.Store, api.Goto, api.IfOne, api.IfZero}, w.method.Code[at].Op) {
			break
		}
		at = w.random.Intn(count)
	}
	i := &w.method.Code[at]
	switch i.Op {
	case api.Enter, api.Exit:
		*i = api.Ins{Op: []int{api.Enter, api.Exit}[w.random.Intn(2)], A: w.random.Intn(7)}
		if w.random.Intn(3) == 0 {
			*i = api.Ins{Op: api.Nop}
		}
	case api.Store:
		i.A = w.random.Intn(7)
	case api.Goto, api.IfOne, api.IfZero:
		i.A = w.random.Intn(count)
	}
}

// written: one of many methods, the same for the same number.
func written(t testing.TB, number int) api.Method {
	w := writer{random: rand.New(rand.NewSource(int64(number))), method: write(t, "")}
	w.left = 2 + w.random.Intn(14)
	for w.left > 0 && w.here() <= 150 {
		w.block()
	}
	w.emit(api.Ret, 0)
	if w.random.Intn(2) == 0 {
		w.spoil()
	}
	return w.method
}

// tally: how many methods of a kind there were.
type tally struct{ accepted, refused, typed, handled, looped, deep int }

func (c *tally) count(m api.Method, states []api.State, err api.Errno) {
	switch {
	case err == api.ErrLock:
		c.refused++
	case err != api.OK:
		c.typed++
	default:
		c.accepted++
		if slices.ContainsFunc(m.Handlers, func(h api.Handler) bool { return h.Depth > 0 && states[h.From].Reached }) {
			c.handled++
		}
		if slices.ContainsFunc(states, func(s api.State) bool { return len(s.Locks) > 2 }) {
			c.deep++
		}
		for at, i := range m.Code {
			if slices.Contains([]int{api.Goto, api.IfOne, api.IfZero}, i.Op) && i.A <= at && len(states[i.A].Locks) > 0 {
				c.looped++
				break
			}
		}
	}
}

// against: Method's answer is the model's.
func (c *tally) against(t *testing.T, number int, m api.Method) {
	t.Helper()
	states, err := ask(t, m)
	c.count(m, states, err)
	if err != api.OK && err != api.ErrLock {
		return
	}
	if ok, want := modelOf(m); ok != (err == api.OK) || texts(states) != want {
		t.Fatalf("P9.1: method %d: %s: %d, %s, not %v, %s", number, codeText(m), err, texts(states), ok, want)
	}
}

func TestLocksAreThoseOfAllWays(t *testing.T) {
	var c tally
	const count = 4000
	for number := range count {
		c.against(t, number, written(t, number))
	}
	// Enough of each, or nothing is said.
	if c.accepted < count/4 || c.refused < count/8 || c.handled < count/20 || c.looped < count/20 || c.deep < count/20 || c.typed < count/100 {
		t.Errorf("of %d: %+v", count, c)
	}
}

// small: a few instructions of three locals, jumps and handlers anywhere.
func small(t testing.TB, number int) api.Method {
	random := rand.New(rand.NewSource(int64(number)))
	m := write(t, "")
	var starts, jumps, held []int
	emit := func(op, operand int) { m.Code = append(m.Code, api.Ins{Op: op, A: operand}) }
	part := func() {
		starts = append(starts, len(m.Code))
		switch random.Intn(9) {
		case 0, 1:
			held = append(held, random.Intn(3))
			emit(api.Enter, held[len(held)-1])
		case 2:
			emit(api.Exit, random.Intn(3))
		case 3, 4:
			// As if nothing jumped: the one that was entered last.
			if len(held) > 0 {
				emit(api.Exit, held[len(held)-1])
				held = held[:len(held)-1]
			} else {
				emit(api.Yield, 0)
			}
		case 5:
			emit(api.PushInt, 0)
			jumps = append(jumps, len(m.Code))
			emit(api.IfOne, 0)
		case 6:
			jumps = append(jumps, len(m.Code))
			emit(api.Goto, 0)
		case 7:
			emit(api.Load, 3)
			emit(api.Store, random.Intn(3))
		default:
			emit([]int{api.Nop, api.Ret}[random.Intn(2)], 0)
		}
	}
	for range 2 + random.Intn(7) {
		part()
	}
	for len(held) > 0 {
		emit(api.Exit, held[len(held)-1])
		held = held[:len(held)-1]
	}
	starts = append(starts, len(m.Code))
	emit(api.Ret, 0)
	count, target := len(m.Code), len(m.Code)
	emit(api.Pop, 0)
	for range random.Intn(3) {
		part()
	}
	if random.Intn(2) == 0 {
		emit(api.Null, 0)
		emit(api.Throw, 0)
	} else {
		jumps = append(jumps, len(m.Code))
		emit(api.Goto, 0)
	}
	for _, at := range jumps {
		m.Code[at].A = starts[random.Intn(len(starts))]
	}
	for range random.Intn(3) {
		from := random.Intn(count)
		m.Handlers = append(m.Handlers, api.Handler{From: from, To: min(count, from+1+random.Intn(3)), Target: target, Class: -1, Depth: random.Intn(3)})
	}
	return m
}

func TestLocksOfSmallMethods(t *testing.T) {
	var c tally
	const count = 20000
	for number := range count {
		c.against(t, number, small(t, number))
	}
	if c.accepted < count/20 || c.refused < count/4 || c.handled < 20 || c.looped < 20 || c.typed > 0 {
		t.Errorf("of %d: %+v", count, c)
	}
}
