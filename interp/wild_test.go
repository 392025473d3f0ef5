package interp

import (
	"fmt"
	"math/rand"
	"slices"
	"strings"
)

// wild: a main of instructions as they come, of which each finds on the stack what it takes, with jumps and handlers wherever stacks fit. Whether locals and locks fit, too, the verifier says.
type wild struct {
	r      *rand.Rand
	lines  []string
	stacks []string // ahead of each line, by letters: i, c, l (an array), o (an A), b (a B), n (null), t (a Fault), h (any object)
	stack  string
	locals []byte // what is in locals, as far as the line above is passed
	locked []string
	open   map[int]string // jumps that lead nowhere yet, with the stacks that they leave
}

// takes of some instructions: what stands on the stack, an r for any reference, an x for anything; and puts.
var wilds = [][3]string{
	{"nop", "", ""}, {"yield", "", ""}, {"pushint 0", "", "i"}, {"pushint 1", "", "i"}, {"pushint 3", "", "i"}, {"pushint -1", "", "i"}, {"pushcplx 2-1i", "", "c"}, {"null", "", "n"},
	{"pop", "x", ""}, {"add", "ii", "i"}, {"sub", "ii", "i"}, {"mul", "ii", "i"}, {"div", "ii", "i"}, {"rem", "ii", "i"}, {"neg", "i", "i"}, {"less", "ii", "i"}, {"same", "ii", "i"},
	{"cadd", "cc", "c"}, {"csub", "cc", "c"}, {"cmul", "cc", "c"}, {"cconj", "c", "c"}, {"csame", "cc", "i"}, {"rsame", "rr", "i"}, {"new A", "", "o"}, {"new B", "", "b"}, {"new Fault", "", "t"},
	{"getfield A.n", "o", "i"}, {"getfield A.o", "o", "o"}, {"getfield A.v", "o", "i"}, {"getfield A.l", "o", "l"}, {"getfield A.c", "o", "c"}, {"getfield B.m", "b", "i"}, {"getfield Fault.code", "t", "i"},
	{"putfield A.n", "oi", ""}, {"putfield A.o", "oo", ""}, {"putfield A.v", "oi", ""}, {"putfield A.l", "ol", ""}, {"putfield A.c", "oc", ""}, {"putfield A.w", "oo", ""}, {"putfield B.m", "bi", ""},
	{"newarr", "i", "l"}, {"arrlen", "l", "i"}, {"arrget", "li", "i"}, {"arrput", "lii", ""}, {"call A.add", "oii", "i"}, {"call A.who", "o", "i"}, {"call A.touch", "o", ""}, {"call A.run", "o", ""},
	{"cast A", "h", "o"}, {"cast B", "h", "b"}, {"cast Object", "h", "h"}, {"is B", "h", "i"}, {"is Fault", "h", "i"}, {"wait", "h", ""}, {"notify", "h", ""}, {"notifyall", "h", ""}, {"spawn A.run", "o", "i"}, {"join", "i", ""}, {"out", "i", ""}, {"outc", "c", ""},
}

// goes: whether what is on the stack may stand where a letter is asked for.
func goes(have, want byte) bool {
	switch want {
	case 'x':
		return true
	case 'r':
		return have != 'i' && have != 'c'
	case 'h':
		return strings.IndexByte("obnth", have) >= 0
	case 'o':
		return have == 'o' || have == 'b' || have == 'n'
	}
	return have == want || have == 'n' && strings.IndexByte("blt", want) >= 0
}

func (w *wild) emit(line, stack string) {
	w.lines = append(w.lines, line)
	w.stacks = append(w.stacks, w.stack)
	w.stack = stack
	for at, left := range w.open {
		if left == w.stack && line != "ret" && at < len(w.lines)-1 && w.r.Intn(3) == 0 {
			w.lines[at] += fmt.Sprintf(" k%d", len(w.lines))
			delete(w.open, at)
		}
	}
}

// plain: one of the table's, if the stack has what it takes.
func (w *wild) plain() {
	x := wilds[w.r.Intn(len(wilds))]
	left := len(w.stack) - len(x[1])
	if left < 0 {
		return
	}
	for n := range x[1] {
		if !goes(w.stack[left+n], x[1][n]) {
			return
		}
	}
	w.emit(x[0], w.stack[:left]+x[2])
}

func (w *wild) line() {
	top := len(w.stack) - 1
	local := w.r.Intn(len(w.locals))
	switch w.r.Intn(24) {
	case 0, 1, 2:
		w.emit(fmt.Sprint("load ", local), w.stack+string(w.locals[local]))
	case 3:
		if top >= 0 && local > 1 {
			w.locals[local] = w.stack[top]
			w.emit(fmt.Sprint("store ", local), w.stack[:top])
		}
	case 4:
		if top >= 0 && top < 10 {
			w.emit("dup", w.stack+w.stack[top:])
		}
	case 5:
		w.lock()
	case 6, 7:
		w.jump()
	case 8:
		if top >= 0 && goes(w.stack[top], 'h') && len(w.open) > 0 {
			w.emit("throw", "")
			w.land()
		}
	default:
		if top < 12 {
			w.plain()
		}
	}
}

func (w *wild) lock() {
	local := []string{"0", "1"}[w.r.Intn(2)]
	last := len(w.locked) - 1
	switch {
	case w.r.Intn(2) == 0 && last >= 0:
		local, w.locked = w.locked[last], w.locked[:last]
		w.emit("exit "+local, w.stack)
	case !slices.Contains(w.locked, local):
		w.locked = append(w.locked, local)
		w.emit("enter "+local, w.stack)
	}
}

// jump: back to where the stack is the same, or on to where it will be.
func (w *wild) jump() {
	op, left := "goto", w.stack
	if top := len(w.stack) - 1; top >= 0 && w.stack[top] == 'i' {
		op, left = []string{"ifzero", "ifone"}[w.r.Intn(2)], w.stack[:top]
	}
	for range 6 {
		if to := w.r.Intn(len(w.lines)); op != "goto" && w.stacks[to] == left && to > 9 {
			w.emit(fmt.Sprintf("%s k%d", op, to), left)
			return
		}
	}
	if op == "goto" && len(w.open) == 0 {
		return
	}
	w.open[len(w.lines)] = left
	w.emit(op, left)
	if op == "goto" {
		w.land()
	}
}

// land: behind what stops one goes on with the stack of some jump that leads nowhere yet.
func (w *wild) land() {
	for at := range len(w.lines) {
		if left, is := w.open[at]; is && w.r.Intn(2) == 0 {
			w.stack = left
			w.lines[at] += fmt.Sprintf(" k%d", len(w.lines))
			delete(w.open, at)
			return
		}
	}
}

// text of one of many programs, the same for the same number.
func wildText(number int) string {
	w := &wild{r: rand.New(rand.NewSource(int64(number))), locals: []byte("holicn"), open: map[int]string{}}
	for _, line := range strings.Split("new A; store 1; pushint 1; newarr; store 2; pushint 2; store 3; pushcplx 1i; store 4; null; store 5", "; ") {
		w.emit(line, "")
	}
	for count := 6 + w.r.Intn(40); len(w.lines) < count; {
		w.line()
	}
	for len(w.locked) > 0 {
		last := len(w.locked) - 1
		w.emit("exit "+w.locked[last], w.stack)
		w.locked = w.locked[:last]
	}
	w.emit("ret", "")
	for at := range w.open {
		w.lines[at] += fmt.Sprintf(" k%d", len(w.lines)-1)
	}
	text := "Main.main() void: "
	for at, line := range w.lines {
		text += fmt.Sprintf("k%d: %s; ", at, line)
	}
	text += fmt.Sprintf("k%d: ; ", len(w.lines))
	for range w.r.Intn(4) {
		from := w.r.Intn(len(w.lines))
		to := from + 1 + w.r.Intn(len(w.lines)-from)
		for target, stack := range w.stacks {
			if (stack == "h" || stack == "t" || stack == "o") && w.r.Intn(3) == 0 {
				class := map[string]string{"h": "", "t": "Fault", "o": "A"}[stack]
				text += fmt.Sprintf("catch k%d k%d k%d %d %s; ", from, to, target, w.r.Intn(3)/2, class)
				break
			}
		}
	}
	return strings.TrimSuffix(text, "; ")
}
