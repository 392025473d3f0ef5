package interp

import (
	"fmt"
	"math/rand"
	"slices"
	"strings"
)

// drawer of methods that mostly are accepted: it keeps to what it believes to be in locals: int, cplx, arr, null, a class, or - (not to be read).
// Local 0 is the receiver; parameters and the steady ones stay of their kinds; the others are loose.
type drawer struct {
	r       *rand.Rand
	calm    bool // few faults
	lines   []string
	catches []string
	locals  []string
	steady  int
	locked  []int
	stored  [][2]string // all loose stores: local, kind
	labels  int
	left    int // so many statements may still be drawn
	depth   int
	height  int // how many are on the stack while a block runs
}

func (w *drawer) emit(text string, args ...any) {
	w.lines = append(w.lines, fmt.Sprintf(text, args...))
}

func (w *drawer) one(words string) string {
	list := strings.Fields(words)
	return list[w.r.Intn(len(list))]
}

func (w *drawer) emitOne(words string) { w.emit("%s", w.one(words)) }

// in: one time of so many.
func (w *drawer) in(n int) bool { return w.r.Intn(n) == 0 }

func (w *drawer) label() string {
	w.labels++
	return fmt.Sprintf("l%d", w.labels)
}

func (w *drawer) mark(label string) { w.emit("%s: nop", label) }

// find: a local of that kind, or -1.
func (w *drawer) find(kind string) int {
	var list []int
	for n, k := range w.locals {
		if k == kind || kind == "A" && (k == "B" || k == "C") || kind == "Object" && strings.Contains("A B C Main Fault Object", k) {
			list = append(list, n)
		}
	}
	if len(list) == 0 {
		return -1
	}
	return list[w.r.Intn(len(list))]
}

// expr: something of that kind is put on the stack.
func (w *drawer) expr(kind string) {
	w.depth++
	defer func() { w.depth-- }()
	if local := w.find(kind); local >= 0 && (w.depth > 3 || !w.in(3)) {
		w.emit("load %d", local)
		return
	}
	switch kind {
	case "int":
		w.integer()
	case "cplx":
		w.complexNumber()
	case "arr":
		w.array()
	default:
		w.object(kind)
	}
}

func (w *drawer) integer() {
	if w.depth > 3 {
		w.emit("pushint %s", w.one("0 1 2 3 -1 7"))
		return
	}
	switch w.r.Intn(14) {
	case 0, 1, 2:
		w.emit("pushint %s", w.one("0 1 2 3 4 5 -1 -7 100 9223372036854775807 -9223372036854775808"))
	case 3, 4:
		w.expr("int")
		w.expr("int")
		w.emitOne("add sub mul less same")
	case 5:
		w.expr("int")
		if w.calm {
			w.emit("pushint 3")
		} else {
			w.expr("int")
		}
		w.emitOne("div rem")
	case 6:
		w.expr("int")
		w.emit("neg")
	case 7:
		w.expr("cplx")
		w.expr("cplx")
		w.emit("csame")
	case 8:
		w.expr(w.one("A arr null"))
		w.expr(w.one("A arr null"))
		w.emit("rsame")
	case 9, 10:
		w.expr("A")
		w.emit("getfield A.%s", w.one("n v"))
	case 11:
		w.expr("arr")
		if w.in(2) {
			w.emit("arrlen")
		} else {
			w.index()
			w.emit("arrget")
		}
	case 12:
		w.expr(w.one("A Object null"))
		w.emit("is %s", w.one("A B C Main Fault Object"))
	default:
		w.expr("A")
		w.expr("int")
		w.expr("int")
		w.emit("call A.%s", w.one("add count"))
	}
}

func (w *drawer) index() {
	if w.calm {
		w.emit("pushint %d", w.r.Intn(2))
		return
	}
	w.expr("int")
}

func (w *drawer) complexNumber() {
	if w.depth > 3 {
		w.emit("pushcplx 1+2i")
		return
	}
	switch w.r.Intn(5) {
	case 0:
		w.emit("pushcplx %s", w.one("1i 2 NaN-1i -0-0i 1.5e300+1e-320i Inf"))
	case 1, 2:
		w.expr("cplx")
		w.expr("cplx")
		w.emitOne("cadd csub cmul")
	case 3:
		w.expr("cplx")
		w.emit("cconj")
	default:
		w.expr("A")
		w.emit("getfield A.%s", w.one("c d"))
	}
}

func (w *drawer) array() {
	switch {
	case w.depth > 3 && !w.calm:
		w.emit("null")
	case w.in(2) && w.depth <= 3 && !w.calm:
		w.expr("A")
		w.emit("getfield A.l")
	case w.calm:
		w.emit("pushint %d", 2+w.r.Intn(9))
		w.emit("newarr")
	default:
		w.expr("int")
		w.emit("newarr")
	}
}

func (w *drawer) object(kind string) {
	class := map[string]string{"A": "A B C", "Object": "A B Object F", "Fault": "Fault F", "Main": "Main"}[kind]
	switch {
	case kind == "null" || !w.calm && w.in(20):
		w.emit("null")
	case kind == "A" && w.depth <= 3 && w.in(3):
		w.expr("A")
		w.emit("getfield A.%s", w.one("o w"))
	case kind == "A" && w.depth <= 3 && w.in(4):
		w.expr("A")
		w.emit("call A.give")
	case kind == "A" && w.depth <= 3 && w.in(8):
		w.expr(w.one("A Object"))
		w.emit("cast %s", w.one("A B"))
	case class == "":
		w.emit("new %s", kind)
	default:
		w.emit("new %s", w.one(class))
	}
}

// both: what may be said of a local that is one of two.
func both(one, other string) string {
	classes := "A B C Main Fault Object null"
	switch {
	case one == other:
		return one
	case one == "null" && other == "arr" || one == "arr" && other == "null":
		return "arr"
	case !strings.Contains(classes, one) || !strings.Contains(classes, other):
		return "-"
	case one == "null":
		return other
	case other == "null":
		return one
	case strings.Contains("A B C", one) && strings.Contains("A B C", other):
		return "A"
	}
	return "Object"
}

func (w *drawer) meet(locals []string) {
	for at, kind := range locals {
		w.locals[at] = both(w.locals[at], kind)
	}
}

func (w *drawer) block() {
	for range 1 + w.r.Intn(4) {
		if w.left <= 0 || len(w.lines) > 120 {
			return
		}
		w.left--
		w.statement()
	}
}

func (w *drawer) statement() {
	switch w.r.Intn(26) {
	case 0, 1, 2:
		w.store(1 + w.r.Intn(w.steady))
	case 3, 4:
		w.store(1 + w.r.Intn(len(w.locals)-1))
	case 5, 6, 7:
		w.put()
	case 8:
		w.out()
	case 9:
		w.branch()
	case 10:
		w.loop()
	case 11, 12:
		w.guarded()
	case 13, 14, 15, 16:
		w.locking()
	case 17:
		w.signal()
	case 18:
		w.kept()
	case 19:
		w.throw()
	case 20:
		w.expr("A")
		w.emit("call A.%s", w.one("touch run run"))
	case 21, 22:
		w.expr("A")
		w.emit("spawn A.run")
		w.emitOne("pop pop join store store")
		if last := len(w.lines) - 1; w.lines[last] == "store" {
			w.lines[last] = fmt.Sprintf("store %d", w.find("int"))
		}
	case 23:
		w.join()
	case 24:
		w.waste()
	default:
		w.emitOne("nop yield")
	}
}

func (w *drawer) join() {
	if w.in(2) && !w.calm {
		w.expr("int")
	} else {
		w.emit("pushint %d", 1+w.r.Intn(3))
	}
	w.emit("join")
}

// waste: what nobody asks for any more.
func (w *drawer) waste() {
	switch w.r.Intn(3) {
	case 0:
		w.emit("new %s", w.one("A B Main F"))
		w.emit("dup")
		w.emit("pop")
	case 1:
		w.emit("pushint %d", w.r.Intn(12))
		w.emit("newarr")
	default:
		w.expr(w.one("A cplx"))
	}
	w.emit("pop")
}

func (w *drawer) store(local int) {
	if slices.Contains(w.locked, local) {
		w.emit("nop")
		return
	}
	kind := w.locals[local]
	if local > w.steady {
		kind = w.one("int cplx arr A B Object null Fault")
	}
	w.expr(kind)
	w.emit("store %d", local)
	if local > w.steady {
		w.locals[local] = kind
		w.stored = append(w.stored, [2]string{fmt.Sprint(local), kind})
	}
}

func (w *drawer) put() {
	if w.in(4) {
		w.expr("arr")
		w.index()
		w.expr("int")
		w.emit("arrput")
		return
	}
	field := w.one("n v c d l o w")
	w.expr("A")
	w.expr(map[string]string{"n": "int", "v": "int", "c": "cplx", "d": "cplx", "l": "arr", "o": "A", "w": "A"}[field])
	w.emit("putfield A.%s", field)
}

func (w *drawer) out() {
	if w.in(3) {
		w.expr("cplx")
		w.emit("outc")
		return
	}
	w.expr("int")
	w.emit("out")
}

func (w *drawer) branch() {
	over, other := w.label(), w.label()
	w.expr("int")
	w.emit("%s %s", w.one("ifzero ifone"), other)
	ahead := slices.Clone(w.locals)
	w.block()
	behind := w.locals
	w.locals = ahead
	if w.in(2) {
		w.emit("goto %s", over)
		w.mark(other)
		w.block()
	} else {
		w.mark(other)
	}
	w.mark(over)
	w.meet(behind)
}

func (w *drawer) loop() {
	top := w.label()
	for local := w.steady + 1; local < len(w.locals); local++ {
		w.locals[local] = "-"
	}
	w.mark(top)
	w.block()
	w.expr("int")
	w.emit("%s %s", w.one("ifzero ifone"), top)
}

// guarded: a block with handlers, which begin with what any instruction of the block may have left in locals.
func (w *drawer) guarded() {
	if w.height > 0 || len(w.catches) > 12 {
		w.emit("nop")
		return
	}
	from, to, target, over := w.label(), w.label(), w.label(), w.label()
	begin, count, held := slices.Clone(w.locals), len(w.stored), len(w.locked)
	w.mark(from)
	w.block()
	w.emit("%s: goto %s", to, over)
	behind := w.locals
	w.locals = begin
	for _, s := range w.stored[count:] {
		local := int(s[0][0] - '0')
		w.locals[local] = both(w.locals[local], s[1])
	}
	class := w.one("any any Fault Object A F")
	if class == "any" {
		class = ""
	}
	w.catches = append(w.catches, fmt.Sprintf("catch %s %s %s %d %s", from, to, target, held, class))
	w.emit("%s: %s", target, w.one("pop pop pop throw dup"))
	if strings.HasSuffix(w.lines[len(w.lines)-1], "dup") {
		w.emit("is Fault")
		w.emit("out")
		w.emit("pop")
	}
	w.block()
	w.mark(over)
	w.meet(behind)
}

// locking: a block with a lock.
func (w *drawer) locking() {
	local := w.find(w.one("A Object Main"))
	if w.in(3) {
		local = 0
	}
	if local < 0 || slices.Contains(w.locked, local) || len(w.locked) == 5 {
		w.emit("nop")
		return
	}
	w.emit("enter %d", local)
	w.locked = append(w.locked, local)
	if w.in(4) {
		w.emit("load %d", local)
		w.emitOne("wait notify notify notifyall")
	}
	w.block()
	if w.in(3) {
		w.emit("load %d", local)
		w.emitOne("wait notify notify notifyall")
	}
	w.locked = w.locked[:len(w.locked)-1]
	w.emit("exit %d", local)
}

// signal: mostly of what isn't owned.
func (w *drawer) signal() {
	if w.calm {
		w.emit("yield")
		return
	}
	w.expr(w.one("A Object"))
	w.emitOne("wait notify notifyall")
}

// kept: a value below all that a block does with the stack.
func (w *drawer) kept() {
	if w.height > 3 {
		w.emit("nop")
		return
	}
	kind := w.one("int cplx A arr")
	w.expr(kind)
	w.height++
	w.block()
	w.height--
	switch kind {
	case "int":
		w.emit("out")
	case "cplx":
		w.emit("outc")
	case "A":
		w.emit("getfield A.n")
		w.emit("out")
	default:
		w.emit("pop")
	}
}

func (w *drawer) throw() {
	over := w.label()
	w.expr("int")
	w.emit("%s %s", w.one("ifzero ifone"), over)
	if w.in(2) && len(w.locked) == 0 {
		w.emit("goto end")
	} else {
		w.expr(w.one("Fault A Object"))
		w.emit("throw")
	}
	w.mark(over)
}

// method: the text of one, of a class, with parameters; ret: the kind that it gives, or void.
func (w *drawer) method(class, name, params, ret string, size int) string {
	w.lines, w.catches, w.locked, w.stored, w.labels, w.depth, w.height = nil, nil, nil, nil, 0, 0, 0
	w.locals = []string{class}
	for _, kind := range strings.Fields(params) {
		w.locals = append(w.locals, kind)
	}
	for _, kind := range strings.Fields("int cplx arr A") {
		switch kind {
		case "int":
			w.emit("pushint %d", w.r.Intn(5))
		case "cplx":
			w.emit("pushcplx 3-4i")
		case "arr":
			w.emit("pushint %d", 1+w.r.Intn(6))
			w.emit("newarr")
		default:
			w.emit("%s", w.one("load@0 new@A new@B load@0"))
			w.lines[len(w.lines)-1] = strings.ReplaceAll(w.lines[len(w.lines)-1], "@", " ")
			if class == "Main" && w.lines[len(w.lines)-1] == "load 0" {
				w.lines[len(w.lines)-1] = "new C"
			}
		}
		w.emit("store %d", len(w.locals))
		w.locals = append(w.locals, kind)
	}
	w.steady = len(w.locals) - 1
	w.locals = append(w.locals, "-", "-")
	w.left = size
	for w.left > 0 && len(w.lines) <= 120 {
		w.block()
	}
	w.mark("end")
	if ret == "void" {
		w.emit("ret")
	} else {
		w.expr(ret)
		w.emit("retval")
	}
	return fmt.Sprintf("%s.%s(%s) %s: %s\n", class, name, params, ret, strings.Join(append(w.lines, w.catches...), "; "))
}

// drawn: one of many programs, the same for the same number.
func drawn(number int) string {
	r := rand.New(rand.NewSource(int64(number)))
	w := &drawer{r: r, calm: r.Intn(3) > 0}
	size := func() int { return 2 + r.Intn(14) }
	text := `
A: n int, o A, v int volatile, c cplx, l arr, w A volatile, d cplx volatile
A.touch() void: enter 0; load 0; notify; exit 0; ret
A.add(int int) int: load 1; load 2; add; retval
`
	text += w.method("A", "run", "", "void", size())
	text += w.method("A", "count", "int int", "int", size())
	text += w.method("A", "give", "", "A", size())
	text += "B < A: m int\n" + w.method("B", "run", "", "void", size())
	text += "C < A\nF < Fault: extra int\nMain: k int, r A\n"
	return text + w.method("Main", "main", "", "void", 4+size())
}
