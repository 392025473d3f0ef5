package verify

import (
	"math/rand"
	"slices"
	"strings"
	"testing"

	"loom/api"
	"loom/code"
)

// origins: the types that may come to a place, each one as it was put at first: nothing is merged on the way.
type origins map[string]bool

func (o origins) add(from origins) (more bool) {
	for word := range from {
		more = more || !o[word]
		o[word] = true
	}
	return more
}

// least: the type where all of them fit.
func (o origins) least() string {
	if len(o) == 1 {
		for word := range o {
			return word
		}
	}
	if o["int"] || o["cplx"] || o["-"] {
		return "-"
	}
	var classes []string
	for word := range o {
		if word != "null" && word != "arr" {
			classes = append(classes, word)
		}
	}
	if o["arr"] && len(classes) > 0 {
		return "-"
	}
	if o["arr"] {
		return "arr"
	}
	for _, above := range strings.Fields("D E C B Fault A Main") {
		if !slices.ContainsFunc(classes, func(class string) bool { return !slices.Contains(below(above), class) }) {
			return above
		}
	}
	return "Object"
}

// sight: what may be where at an instruction, with the stack at one height.
type sight struct{ locals, stack []origins }

func seen(list []origins) []origins {
	var copies []origins
	for _, o := range list {
		c := origins{}
		c.add(o)
		copies = append(copies, c)
	}
	return copies
}

// model: the sights of a method, by instruction and height, all ways gone until no more come.
type model struct {
	method api.Method
	pool   []api.Const
	rows   map[string]row
	at     []map[int]*sight
	more   bool
	bad    bool
}

// wordsOfIns: an instruction as the rows have it.
func wordsOfIns(pool []api.Const, i api.Ins) string {
	name := strings.Fields(code.Print(i))[0]
	switch code.Operand(i.Op) {
	case 2:
		k := pool[i.A]
		switch k.Kind {
		case api.CInt:
			return name + " 7"
		case api.CCplx:
			return name + " 7i"
		case api.CClass:
			return name + " " + k.Class
		case api.CField:
			return name + " " + k.Class + "." + k.Name
		}
		return name + " " + k.Class + "." + k.Name + "()"
	case 3:
		return name + " next"
	}
	return name
}

func rowsByCode() map[string]row {
	list := map[string]row{}
	for _, r := range rows() {
		list[r.code] = r
	}
	for _, r := range []row{{"load", "", ""}, {"store", "any", ""}, {"dup", "any", ""}, {"enter", "", ""}, {"exit", "", ""}, {"throw", "Object", ""}, {"ret", "", ""}, {"call Main.main()", "Main", ""}} {
		list[r.code] = r
	}
	return list
}

// rowOf: of an instruction of a method of a class with that pool.
func rowOf(list map[string]row, pool []api.Const, m api.Method, i api.Ins) row {
	if i.Op == api.RetVal {
		return row{takes: wordOf(m.Ret)}
	}
	if i.Op == api.Spawn {
		return row{takes: pool[i.A].Class, puts: "int"}
	}
	return list[wordsOfIns(pool, i)]
}

func (m *model) row(i api.Ins) row {
	return rowOf(m.rows, m.pool, m.method, i)
}

func (m *model) come(to int, s sight) {
	if len(s.stack) > m.method.Stack {
		m.bad = true
		return
	}
	there := m.at[to][len(s.stack)]
	if there == nil {
		m.at[to][len(s.stack)] = &sight{seen(s.locals), seen(s.stack)}
		m.more = true
		return
	}
	for place, o := range s.locals {
		m.more = there.locals[place].add(o) || m.more
	}
	for place, o := range s.stack {
		m.more = there.stack[place].add(o) || m.more
	}
}

func (m *model) pass(pc int, from sight) {
	i := m.method.Code[pc]
	r := m.row(i)
	left := len(from.stack) - len(strings.Fields(r.takes))
	if left < 0 {
		m.bad = true
		return
	}
	s := sight{seen(from.locals), seen(from.stack[:left])}
	for _, word := range strings.Fields(r.puts) {
		s.stack = append(s.stack, origins{word: true})
	}
	switch i.Op {
	case api.Load:
		s.stack = append(s.stack, seen(from.locals[i.A:i.A+1])...)
	case api.Store:
		s.locals[i.A] = seen(from.stack[left:])[0]
	case api.Dup:
		s.stack = append(append(s.stack, seen(from.stack[left:])...), seen(from.stack[left:])...)
	}
	if !slices.Contains([]int{api.Goto, api.Ret, api.RetVal, api.Throw}, i.Op) {
		m.come(pc+1, s)
	}
	if slices.Contains([]int{api.Goto, api.IfZero, api.IfOne}, i.Op) {
		m.come(i.A, s)
	}
	for _, h := range m.method.Handlers {
		if h.From <= pc && pc < h.To {
			thrown := "Object"
			if h.Class >= 0 {
				thrown = m.pool[h.Class].Class
			}
			m.come(h.Target, sight{from.locals, []origins{{thrown: true}}})
		}
	}
}

// mayRun: whether an instruction has what it takes, by the least types of what comes to it.
func (m *model) mayRun(pc int, s sight) bool {
	i := m.method.Code[pc]
	for _, o := range s.stack {
		if o.least() == "-" {
			return false
		}
	}
	takes := strings.Fields(m.row(i).takes)
	for place, want := range takes {
		if !takesIt(want, s.stack[len(s.stack)-len(takes)+place].least()) {
			return false
		}
	}
	switch i.Op {
	case api.Load:
		return s.locals[i.A].least() != "-"
	case api.Enter, api.Exit:
		return s.locals[i.A].least() != "-" && takesIt("Object", s.locals[i.A].least())
	case api.Ret:
		return m.method.Ret.Kind == api.TVoid
	case api.RetVal:
		return m.method.Ret.Kind != api.TVoid
	case api.Spawn:
		return !slices.Contains([]string{"say", "give", "add", "mix", "own"}, m.pool[i.A].Name)
	}
	return true
}

// modelOf: whether the method is accepted, and its states by tell.
func modelOf(pool []api.Const, method api.Method) (bool, string) {
	m := &model{method: method, pool: pool, rows: rowsByCode()}
	for range method.Code {
		m.at = append(m.at, map[int]*sight{})
	}
	begin := sight{locals: []origins{{"Main": true}}}
	for _, t := range method.Params {
		begin.locals = append(begin.locals, origins{wordOf(t): true})
	}
	for len(begin.locals) < method.Locals {
		begin.locals = append(begin.locals, origins{"-": true})
	}
	m.come(0, begin)
	for m.more {
		m.more = false
		for pc := range method.Code {
			for height := range api.MaxStack + 1 {
				if s := m.at[pc][height]; s != nil {
					m.pass(pc, *s)
				}
			}
		}
	}
	return m.verdict()
}

func (m *model) verdict() (bool, string) {
	var lines []string
	for pc := range m.method.Code {
		line := "."
		for _, s := range m.at[pc] {
			if len(m.at[pc]) > 1 || m.bad || !m.mayRun(pc, *s) {
				return false, ""
			}
			var locals, stack []string
			for _, o := range s.locals {
				locals = append(locals, o.least())
			}
			for _, o := range s.stack {
				stack = append(stack, o.least())
			}
			line = strings.TrimSpace(strings.Join(locals, " ") + " | " + strings.Join(stack, " "))
		}
		lines = append(lines, line)
	}
	return true, strings.Join(lines, "\n")
}

// writer of methods that mostly may run: it keeps to what it believes to be on the stack and in locals.
type writer struct {
	random    *rand.Rand
	pool      []api.Const
	rows      []row
	method    api.Method
	stack     []string
	locals    []string
	heights   []string // of what is written: the words of the stack ahead of it
	unsettled []int    // jumps to what isn't written yet
	awaiting  []string // the words of the stack behind them
}

func (w *writer) one(words string) string {
	list := strings.Fields(words)
	return list[w.random.Intn(len(list))]
}

func (w *writer) emit(op, operand int) {
	w.heights = append(w.heights, strings.Join(w.stack, " "))
	w.method.Code = append(w.method.Code, api.Ins{Op: op, A: operand})
}

// fits: whether the row may run on what is believed to be there.
func (w *writer) fits(r row) bool {
	takes := strings.Fields(r.takes)
	if len(takes) > len(w.stack) || len(w.stack)+2 > w.method.Stack {
		return false
	}
	for place, want := range takes {
		if !takesIt(want, w.stack[len(w.stack)-len(takes)+place]) {
			return false
		}
	}
	return true
}

// rowStep: any row that fits, those that take something rather.
func (w *writer) rowStep() {
	var fit []row
	for _, r := range w.rows {
		jumps := strings.HasSuffix(r.code, " next")
		if !jumps && w.fits(r) {
			fit = append(fit, r)
			if r.takes != "" {
				fit = append(fit, r, r)
			}
		}
	}
	if len(fit) == 0 {
		w.emit(api.Nop, 0)
		return
	}
	r := fit[w.random.Intn(len(fit))]
	for op := range api.Ops {
		operand := 0
		if code.Operand(op) == 2 {
			operand = slices.IndexFunc(w.pool, func(k api.Const) bool {
				return wordsOfIns([]api.Const{k}, api.Ins{Op: op}) == r.code
			})
		} else if wordsOfIns(nil, api.Ins{Op: op}) != r.code {
			operand = -1
		}
		if operand >= 0 {
			w.emit(op, operand)
			w.stack = append(w.stack[:len(w.stack)-len(strings.Fields(r.takes))], strings.Fields(r.puts)...)
			return
		}
	}
}

func (w *writer) localStep() {
	at := w.random.Intn(len(w.locals))
	known := w.locals[at] != "-"
	switch {
	case len(w.stack) > 0 && (at > 0 || w.random.Intn(9) == 0) && w.random.Intn(2) == 0:
		w.emit(api.Store, at)
		w.locals[at] = w.stack[len(w.stack)-1]
		w.stack = w.stack[:len(w.stack)-1]
	case known && takesIt("Object", w.locals[at]) && w.random.Intn(4) == 0:
		w.emit([]int{api.Enter, api.Exit}[w.random.Intn(2)], at)
	case known && len(w.stack)+1 < w.method.Stack:
		w.emit(api.Load, at)
		w.stack = append(w.stack, w.locals[at])
	}
}

// jumpStep: to what is written and had such a stack, or to what will have it.
func (w *writer) jumpStep() {
	op := api.Goto
	if len(w.stack) > 0 && w.stack[len(w.stack)-1] == "int" && w.random.Intn(5) > 0 {
		op = []int{api.IfZero, api.IfOne}[w.random.Intn(2)]
	} else if w.random.Intn(6) > 0 {
		return
	}
	at := len(w.method.Code)
	w.emit(op, at)
	if op != api.Goto {
		w.stack = w.stack[:len(w.stack)-1]
	}
	behind := strings.Join(w.stack, " ")
	var back []int
	for to, words := range w.heights {
		if words == behind {
			back = append(back, to)
		}
	}
	if len(back) > 0 && w.random.Intn(3) == 0 {
		w.method.Code[at].A = back[w.random.Intn(len(back))]
		return
	}
	w.unsettled, w.awaiting = append(w.unsettled, at), append(w.awaiting, behind)
}

// settle: jumps that may come here do.
func (w *writer) settle(all bool) {
	here := strings.Join(w.stack, " ")
	for at := len(w.unsettled) - 1; at >= 0; at-- {
		if all || w.awaiting[at] == here && w.random.Intn(2) == 0 {
			w.method.Code[w.unsettled[at]].A = len(w.method.Code)
			w.unsettled, w.awaiting = slices.Delete(w.unsettled, at, at+1), slices.Delete(w.awaiting, at, at+1)
		}
	}
}

// handlers: at what had one object on its stack.
func (w *writer) handlers() {
	count := len(w.method.Code)
	var targets []int
	for at, words := range w.heights {
		if words != "" && slices.Contains(below("Object"), words) || words == "null" {
			targets = append(targets, at)
		}
	}
	for range w.random.Intn(4) {
		if len(targets) == 0 {
			return
		}
		from := w.random.Intn(count)
		h := api.Handler{From: from, To: from + 1 + w.random.Intn(count-from), Target: targets[w.random.Intn(len(targets))], Class: -1}
		if at := w.random.Intn(len(w.pool)); w.pool[at].Kind == api.CClass {
			h.Class = at
		}
		w.method.Handlers = append(w.method.Handlers, h)
	}
}

// write: a method, of which some is changed at random now and then.
func (w *writer) write() api.Method {
	w.method = api.Method{Name: "it", Stack: 2 + w.random.Intn(6)}
	w.locals = []string{"Main"}
	for range w.random.Intn(4) {
		word := w.one("int cplx arr A B C D Object")
		w.method.Params, w.locals = append(w.method.Params, typeOf(word)), append(w.locals, word)
	}
	for range w.random.Intn(5) {
		w.locals = append(w.locals, "-")
	}
	w.method.Locals = len(w.locals)
	w.method.Ret = typeOf(w.one("void void int A"))
	for range 4 + w.random.Intn(50) {
		w.settle(false)
		switch w.random.Intn(8) {
		case 0, 1, 2:
			w.localStep()
		case 3:
			w.jumpStep()
		default:
			w.rowStep()
		}
	}
	w.settle(true)
	w.end()
	w.handlers()
	if w.random.Intn(3) == 0 {
		w.spoil()
	}
	return w.method
}

func (w *writer) end() {
	switch {
	case w.method.Ret.Kind == api.TVoid:
		w.emit(api.Ret, 0)
	case len(w.stack) > 0 && takesIt(wordOf(w.method.Ret), w.stack[len(w.stack)-1]):
		w.emit(api.RetVal, 0)
	default:
		w.emit(api.Null, 0)
		w.stack = append(w.stack, "null")
		w.emit(api.Throw, 0)
	}
}

// spoil: an instruction, or how high the stack may be.
func (w *writer) spoil() {
	count := len(w.method.Code)
	at := w.random.Intn(count)
	i := &w.method.Code[at]
	switch {
	case w.random.Intn(5) == 0:
		w.method.Stack = max(0, w.method.Stack-1-w.random.Intn(2))
	case code.Operand(i.Op) == 1:
		i.A = w.random.Intn(w.method.Locals)
	case code.Operand(i.Op) == 2:
		kind := w.pool[i.A].Kind
		i.A = w.random.Intn(len(w.pool))
		for w.pool[i.A].Kind != kind {
			i.A = w.random.Intn(len(w.pool))
		}
	case code.Operand(i.Op) == 3:
		i.A = w.random.Intn(count)
	case at < count-1:
		*i = api.Ins{Op: []int{api.Pop, api.Nop, api.Dup, api.Null, api.Add, api.Ret, api.Throw, api.RetVal, api.RSame}[w.random.Intn(9)]}
	}
}

// poolOfAll: all constants that rows ask for.
func poolOfAll(t testing.TB) []api.Const {
	text := ""
	for _, r := range rows() {
		text += strings.ReplaceAll(r.code, "next", "x") + ";"
	}
	return assemble(t, text+"spawn A.say(); spawn A.give(); call Main.main(); x: ret").pool
}

func newWriter(t testing.TB) *writer { return &writer{pool: poolOfAll(t), rows: rows()} }

// written: one of many methods, the same for the same number.
func (w *writer) written(number int) api.Method {
	fresh := writer{random: rand.New(rand.NewSource(int64(number))), pool: w.pool, rows: w.rows}
	return fresh.write()
}

func TestStatesAreTheLeast(t *testing.T) {
	accepted, handled, looped := 0, 0, 0
	const count = 3000
	w := newWriter(t)
	for number := range count {
		m := w.written(number)
		states, err := askOf(t, linked(t, world(w.pool, m)), len(m.Code))
		ok, want := modelOf(w.pool, m)
		if (err == api.OK) != ok || texts(states) != want {
			t.Fatalf("P8.1: method %d: %d, %v:\n%+v\n%s\nnot\n%s", number, err, ok, m, texts(states), want)
		}
		if !ok {
			continue
		}
		accepted++
		if slices.ContainsFunc(m.Handlers, func(h api.Handler) bool { return states[h.From].Reached }) {
			handled++
		}
		for at, i := range m.Code {
			if code.Operand(i.Op) == 3 && i.A <= at && states[at].Reached {
				looped++
				break
			}
		}
	}
	// Enough of both, or nothing is said.
	if accepted < count/3 || accepted > count*4/5 || handled < count/10 || looped < count/10 {
		t.Errorf("%d of %d are accepted, %d of them with handlers, %d with loops", accepted, count, handled, looped)
	}
}

// small: a few instructions that move values about, jumps and handlers anywhere.
func small(random *rand.Rand, pool []api.Const) api.Method {
	m := api.Method{Name: "it", Locals: 3, Stack: 1 + random.Intn(3)}
	classAt := func() int {
		at := random.Intn(len(pool))
		for pool[at].Kind != api.CClass {
			at = random.Intn(len(pool))
		}
		return at
	}
	count := 3 + random.Intn(8)
	for range count {
		i := api.Ins{Op: []int{api.New, api.New, api.Null, api.Store, api.Store, api.Load, api.Pop, api.Goto, api.IfOne, api.PushInt, api.NewArr, api.Nop}[random.Intn(12)]}
		switch i.Op {
		case api.New:
			i.A = classAt()
		case api.Store, api.Load:
			i.A = random.Intn(3)
		case api.Goto, api.IfOne:
			i.A = random.Intn(count + 1)
		}
		m.Code = append(m.Code, i)
	}
	m.Code = append(m.Code, api.Ins{Op: api.Ret})
	for range random.Intn(3) {
		from := random.Intn(count)
		h := api.Handler{From: from, To: from + 1 + random.Intn(count-from), Target: random.Intn(count + 1), Class: -1}
		if random.Intn(2) == 0 {
			h.Class = classAt()
		}
		m.Handlers = append(m.Handlers, h)
	}
	return m
}

func TestStatesOfSmallMethodsAreTheLeast(t *testing.T) {
	random := rand.New(rand.NewSource(8))
	pool := newWriter(t).pool
	at := slices.IndexFunc(pool, func(k api.Const) bool { return k.Kind == api.CInt })
	pool[0], pool[at] = pool[at], pool[0]
	accepted := 0
	const count = 15000
	for number := range count {
		m := small(random, pool)
		states, err := askOf(t, linked(t, world(pool, m)), len(m.Code))
		ok, want := modelOf(pool, m)
		if (err == api.OK) != ok || texts(states) != want {
			t.Fatalf("P8.1: small method %d: %d, %v:\n%+v\n%s\nnot\n%s", number, err, ok, m, texts(states), want)
		}
		if ok {
			accepted++
		}
	}
	if accepted < count/50 || accepted > count/2 {
		t.Errorf("%d of %d are accepted", accepted, count)
	}
}
