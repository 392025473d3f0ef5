package interp

import (
	"math"
	"slices"
	"testing"

	"loom/api"
	"loom/link"
	"loom/locks"
)

// The model: the chapter's words, by things that know one another and not by addresses. It goes by the classes as they were handed in, and by the types that locks.Method tells.

// datum: an integer, a complex number, or what something refers to (nil: null).
type datum struct {
	kind   int
	number int64
	cplx   complex128
	to     *thing
}

// thing: an object or an array, with its lock. It is placed where an arena would have it.
type thing struct {
	class    string  // ints: an array
	values   []datum // of its fields, Object's first, or its elements
	at, size int
	owner    *actor
	count    int
	fat      bool
	entry    []stander
	waiting  []stander
}

type stander struct {
	who   *actor
	count int
}

// activation: a call. What it has locked stands in held, by locals.
type activation struct {
	class         string
	method        api.Method
	pc            int
	locals, stack []datum
	held          []int
}

// delayed: something that is to become a value of a thing.
type delayed struct {
	of    *thing
	index int
	value datum
}

type actor struct {
	id, state int
	calls     []*activation
	buffer    []delayed
	joins     *actor
}

type model struct {
	t           testing.TB
	classes     map[string]api.Class
	states      map[[2]string][]api.State
	words       int
	weak        bool
	things      []*thing // by their addresses
	actors      []*actor
	events      []api.Event
	over        bool
	collections int
	ran         [api.Ops]int // how often each op was
	faults      [api.FSize + 1]int
}

func newModel(t testing.TB, p *link.Program, l []api.Class, words int, weak bool) *model {
	t.Helper()
	d := &model{t: t, classes: map[string]api.Class{}, states: map[[2]string][]api.State{}, words: min(max(words, 0), api.MaxWords), weak: weak}
	d.classes["Object"] = api.Class{Name: "Object"}
	d.classes["Fault"] = api.Class{Name: "Fault", Super: "Object", Fields: []api.Field{{Name: "code", Type: typeOf("int")}}}
	for _, c := range l {
		if c.Super == "" {
			c.Super = "Object"
		}
		d.classes[c.Name] = c
		for _, m := range c.Methods {
			states, err := locks.Method(p, c.Name, m.Name)
			if err != api.OK {
				t.Fatalf("%s.%s isn't accepted: %d", c.Name, m.Name, err)
			}
			d.states[[2]string{c.Name, m.Name}] = states
		}
	}
	first := &actor{id: 1, state: api.Ready}
	d.actors = []*actor{first}
	if o := d.make(first, "Main", d.blank("Main")); o != nil {
		d.begin(first, o, "main", []datum{{kind: api.TRef, to: o}})
	}
	return d
}

// line: a class and those above it, the lowest one first.
func (d *model) line(class string) []string {
	var list []string
	for class != "" {
		list = append(list, class)
		class = d.classes[class].Super
	}
	return list
}

func (d *model) below(o *thing, class string) bool { return slices.Contains(d.line(o.class), class) }

func (d *model) fields(class string) []api.Field {
	var list []api.Field
	for _, name := range d.line(class) {
		list = append(slices.Clone(d.classes[name].Fields), list...)
	}
	return list
}

// field: which of a class's fields has that name.
func (d *model) field(class, name string) (int, api.Field) {
	list := d.fields(class)
	n := slices.IndexFunc(list, func(f api.Field) bool { return f.Name == name })
	return n, list[n]
}

// blank: what an object's fields are at first.
func (d *model) blank(class string) []datum {
	var list []datum
	for _, f := range d.fields(class) {
		kind := f.Type.Kind
		if kind == api.TArr || kind == api.TRef {
			kind = api.TNull
		}
		list = append(list, datum{kind: kind})
	}
	return list
}

// method: the nearest one of that name.
func (d *model) method(class, name string) (string, api.Method) {
	for _, owner := range d.line(class) {
		for _, m := range d.classes[owner].Methods {
			if m.Name == name {
				return owner, m
			}
		}
	}
	d.t.Fatalf("no method %s.%s", class, name)
	return "", api.Method{}
}

func (d *model) begin(a *actor, o *thing, name string, given []datum) {
	class, m := d.method(o.class, name)
	f := &activation{class: class, method: m, locals: slices.Clone(given)}
	for len(f.locals) < m.Locals {
		f.locals = append(f.locals, datum{kind: api.TInt})
	}
	a.calls = append(a.calls, f)
}

func (a *actor) last() *activation { return a.calls[len(a.calls)-1] }

func (d *model) note(e api.Event) {
	switch {
	case d.over:
	case len(d.events) == api.MaxEvents:
		d.events = append(d.events, api.Event{Thread: e.Thread, Kind: api.ELimit})
		d.over = true
	default:
		d.events = append(d.events, e)
	}
}

func wordsOf(v datum) int {
	if v.kind == api.TCplx {
		return 2
	}
	return 1
}

// make: a new thing, or nil, if it has no room.
func (d *model) make(a *actor, class string, values []datum) *thing {
	o := &thing{class: class, values: values, size: api.Header}
	for _, v := range values {
		o.size += wordsOf(v)
	}
	if !d.place(o) {
		d.collections++
		reached := d.reached()
		d.things = slices.DeleteFunc(d.things, func(o *thing) bool { return !reached[o] })
		if !d.place(o) {
			d.note(api.Event{Thread: a.id, Kind: api.EMemory})
			d.over = true
			return nil
		}
	}
	return o
}

// place: at the first address where nothing is for long enough.
func (d *model) place(o *thing) bool {
	from := 1
	for n := 0; n <= len(d.things); n++ {
		to := d.words + 1
		if n < len(d.things) {
			to = d.things[n].at
		}
		if to-from >= o.size {
			o.at = from
			d.things = slices.Insert(d.things, n, o)
			return true
		}
		if n < len(d.things) {
			from = to + d.things[n].size
		}
	}
	return false
}

// reached: by what is told of types at each frame's instruction, by buffers, by values of what is reached.
func (d *model) reached() map[*thing]bool {
	reached := map[*thing]bool{}
	var visit func(v datum)
	visit = func(v datum) {
		if v.to == nil || reached[v.to] {
			return
		}
		reached[v.to] = true
		for _, w := range v.to.values {
			visit(w)
		}
	}
	for _, a := range d.actors {
		for _, f := range a.calls {
			s := d.states[[2]string{f.class, f.method.Name}][f.pc]
			for n, v := range f.locals {
				if s.Locals[n].Kind != api.TTop {
					visit(v)
				}
			}
			for _, v := range f.stack {
				visit(v)
			}
		}
		for _, w := range a.buffer {
			visit(datum{to: w.of})
			visit(w.value)
		}
	}
	return reached
}

func (d *model) ready() []int {
	var list []int
	for _, a := range d.actors {
		if a.state == api.Ready {
			list = append(list, a.id)
		}
	}
	return list
}

func (d *model) step(id int) api.Errno {
	if d.over || id < 1 || id > len(d.actors) || d.actors[id-1].state != api.Ready {
		return api.ErrThread
	}
	d.perform(d.actors[id-1])
	if len(d.ready()) > 0 {
		return api.OK
	}
	if slices.ContainsFunc(d.actors, func(a *actor) bool { return a.state != api.Ended }) {
		d.note(api.Event{Kind: api.EDeadlock})
	}
	d.over = true
	return api.OK
}

func (d *model) flushOne(a *actor) bool {
	if len(a.buffer) == 0 {
		return false
	}
	w := a.buffer[0]
	a.buffer = slices.Clone(a.buffer[1:])
	w.of.values[w.index] = w.value
	return true
}

func (d *model) flush(a *actor) {
	for d.flushOne(a) {
	}
}

func (d *model) read(a *actor, o *thing, n int) datum {
	v := o.values[n]
	for _, w := range a.buffer {
		if w.of == o && w.index == n {
			v = w.value
		}
	}
	return v
}

func (d *model) write(a *actor, o *thing, n int, v datum) {
	if d.weak {
		a.buffer = append(a.buffer, delayed{o, n, v})
		return
	}
	o.values[n] = v
}

// enters: whether the lock is had at once.
func (d *model) enters(a *actor, o *thing) bool {
	if o.owner != nil && o.owner != a {
		o.fat = true
		o.entry = append(o.entry, stander{a, 1})
		a.state = api.Blocked
		return false
	}
	o.owner = a
	o.count++
	o.fat = o.fat || o.count > api.Thin
	return true
}

// next: the lock is for who has stood in line longest, who goes on.
func (d *model) next(o *thing) {
	o.owner, o.count = nil, 0
	if len(o.entry) == 0 {
		return
	}
	first := o.entry[0]
	o.entry = slices.Clone(o.entry[1:])
	o.owner, o.count = first.who, first.count
	first.who.state = api.Ready
	f := first.who.last()
	if i := f.method.Code[f.pc]; i.Op == api.Enter {
		f.held = append(f.held, i.A)
	}
	f.pc++
}

func (d *model) exits(a *actor, f *activation, depth int) {
	for len(f.held) > depth {
		d.flush(a)
		o := f.locals[f.held[len(f.held)-1]].to
		f.held = slices.Clone(f.held[:len(f.held)-1])
		if o.count--; o.count == 0 {
			d.next(o)
		}
	}
}

func (d *model) fault(a *actor, code int) {
	o := d.make(a, "Fault", []datum{{kind: api.TInt, number: int64(code)}})
	if o == nil {
		return
	}
	d.faults[code]++
	d.throw(a, o)
}

func (d *model) throw(a *actor, o *thing) {
	for len(a.calls) > 0 {
		f := a.last()
		pool := d.classes[f.class].Pool
		for _, h := range f.method.Handlers {
			if h.From <= f.pc && f.pc < h.To && (h.Class == -1 || d.below(o, pool[h.Class].Class)) {
				d.exits(a, f, h.Depth)
				f.stack = []datum{{kind: api.TRef, to: o}}
				f.pc = h.Target
				return
			}
		}
		d.exits(a, f, 0)
		a.calls = a.calls[:len(a.calls)-1]
	}
	d.flush(a)
	e := api.Event{Thread: a.id, Kind: api.EUncaught, Class: o.class}
	if d.below(o, "Fault") {
		e.Int = o.values[0].number
	}
	d.end(a, e)
}

func (d *model) end(a *actor, e api.Event) {
	d.flush(a)
	d.note(e)
	a.state = api.Ended
	for _, other := range d.actors {
		if other.state == api.Joining && other.joins == a {
			other.state = api.Ready
			other.last().pc++
		}
	}
}

// bits of a value, as words.
func bits(v datum) []uint64 {
	switch {
	case v.kind == api.TInt:
		return []uint64{uint64(v.number)}
	case v.kind == api.TCplx:
		return []uint64{math.Float64bits(real(v.cplx)), math.Float64bits(imag(v.cplx))}
	case v.to != nil:
		return []uint64{uint64(v.to.at)}
	}
	return []uint64{0}
}
