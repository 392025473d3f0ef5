package interp

import (
	"slices"
	"testing"

	"loom/api"
)

// pair: a machine and the model of the same program, told the same.
type pair struct {
	t     testing.TB
	m     *Machine
	d     *model
	what  string // the program, for who reads of a fault
	trail []int  // the steps; -n: a Flush of n
}

func newPair(t testing.TB, l []api.Class, words int, weak bool, what string) *pair {
	t.Helper()
	p := linked(t, l)
	m, err := New(p, words, weak)
	if err != api.OK || m == nil {
		t.Fatalf("P15.1: New: %v, %d, of %s", m, err, what)
	}
	pair := &pair{t: t, m: m, d: newModel(t, p, l, words, weak), what: what}
	pair.same()
	pair.sameHeap()
	return pair
}

func (p *pair) fail(what string, got, want any) {

	p.t.Fatalf("%s: %v, not\n%v; %d words, weak %v, behind %v of\n%s", what, got, want, p.d.words, p.d.weak, p.trail, p.what)
}

// check: comparable things, so that a text is made of what is unlike alone.
func check[T comparable](p *pair, what string, got, want T) {

	if got != want {
		p.fail(what, got, want)
	}
}

func checkList[T comparable](p *pair, what string, got, want []T) {

	if !slices.Equal(got, want) {
		p.fail(what, got, want)
	}
}

func (p *pair) step(id int) {

	p.trail = append(p.trail, id)
	check(p, "P15.1: Step", p.m.Step(id), p.d.step(id))
}

func (p *pair) flush(id int) {

	p.trail = append(p.trail, -id)
	want := id >= 1 && id <= len(p.d.actors) && p.d.flushOne(p.d.actors[id-1])
	check(p, "P15.5: Flush", p.m.Flush(id), want)
}

// same: all that is seen of threads and events.
func (p *pair) same() {

	checkList(p, "P15.6: Ready", p.m.Ready(), p.d.ready())
	check(p, "P15.1: Over", p.m.Over(), p.d.over)
	check(p, "P15.2: Collections", p.m.Collections(), p.d.collections)
	got := p.m.Events()
	check(p, "P15.1: how many events", len(got), len(p.d.events))
	if from := max(len(got)-3, 0); eventWords(got[from:]) != eventWords(p.d.events[from:]) {
		p.fail("P15.3: events", eventWords(got), eventWords(p.d.events))
	}
	threads := p.m.Threads()
	check(p, "P15.6: how many threads", len(threads), len(p.d.actors))
	for n, a := range p.d.actors {
		if want := p.d.show(a); !sameThread(threads[n], want) {
			p.fail("P15.6: Threads", threadWords(threads[n]), threadWords(want))
		}
		check(p, "P15.5: Buffer", p.m.Buffer(a.id), len(a.buffer))
	}
	check(p, "P15.5: Buffer", p.m.Buffer(0)+p.m.Buffer(len(threads)+1), 0)
}

func sameThread(a, b api.Thread) bool {
	return a.Id == b.Id && a.State == b.State && slices.EqualFunc(a.Frames, b.Frames, sameFrame)
}

func sameFrame(a, b api.Frame) bool {
	return a.Class == b.Class && a.Method == b.Method && a.Pc == b.Pc && slices.Equal(a.Locks, b.Locks) && slices.EqualFunc(a.Locals, b.Locals, sameValue) && slices.EqualFunc(a.Stack, b.Stack, sameValue)
}

func sameValue(a, b api.Value) bool {
	return a.Kind == b.Kind && a.Int == b.Int && a.Ref == b.Ref && sameFloat(real(a.Cplx), real(b.Cplx)) && sameFloat(imag(a.Cplx), imag(b.Cplx))
}

// sameHeap: all that is seen of the arena and of locks.
func (p *pair) sameHeap() {

	var all []int
	next := 0
	for at := -1; at <= p.d.words+1; at++ {
		class, lock := "", api.Lock{}
		if next < len(p.d.things) && p.d.things[next].at == at {
			o := p.d.things[next]
			next++
			all = append(all, at)
			class, lock = o.class, o.shown()
			var want, got []uint64
			for _, v := range o.values {
				want = append(want, bits(v)...)
			}
			count, _ := p.m.Heap().Words(at)
			for word := range count {
				v, _ := p.m.Heap().Get(at, word)
				got = append(got, v)
			}
			checkList(p, "P15.2: words", got, want)
		}
		check(p, "P15.6: Class", p.m.Class(at), class)
		check(p, "P15.6: Lock", lockWord(p.m.Lock(at)), lockWord(lock))
	}
	if !slices.Equal(p.m.Heap().All(), all) {
		p.fail("P15.2: All of Heap", p.m.Heap().All(), all)
	}
}

func (o *thing) shown() api.Lock {
	l := api.Lock{Count: o.count, Fat: o.fat}
	if o.owner != nil {
		l.Owner = o.owner.id
	}
	for _, s := range o.entry {
		l.Entry = append(l.Entry, s.who.id)
	}
	for _, s := range o.waiting {
		l.Wait = append(l.Wait, s.who.id)
	}
	return l
}

func (d *model) show(a *actor) api.Thread {
	x := api.Thread{Id: a.id, State: a.state}
	for _, f := range a.calls {
		s := d.states[[2]string{f.class, f.method.Name}][f.pc]
		shown := api.Frame{Class: f.class, Method: f.method.Name, Pc: f.pc, Locks: s.Locks}
		for n, v := range f.locals {
			shown.Locals = append(shown.Locals, d.showValue(s.Locals[n], v))
		}
		for n, v := range f.stack {
			shown.Stack = append(shown.Stack, d.showValue(s.Stack[n], v))
		}
		if !slices.Equal(s.Locks, f.held) {
			d.t.Fatalf("P15.7: %v are locked, not %v, in %+v", f.held, s.Locks, shown)
		}
		x.Frames = append(x.Frames, shown)
	}
	return x
}

// showValue: of what may be read a value must be what its type says.
func (d *model) showValue(t api.Type, v datum) api.Value {
	fits := false
	shown := api.Value{Kind: v.kind, Int: v.number, Cplx: v.cplx}
	switch t.Kind {
	case api.TTop:
		return api.Value{Kind: api.TTop}
	case api.TInt, api.TCplx:
		fits = v.kind == t.Kind
	case api.TNull:
		fits = v.kind == api.TNull
	case api.TArr:
		fits = v.kind == api.TNull || v.to != nil && v.to.class == "ints"
	case api.TRef:
		fits = v.kind == api.TNull || v.to != nil && d.below(v.to, t.Class)
	}
	if !fits {
		d.t.Fatalf("P15.7: %+v is no %+v", v, t)
	}
	if v.to != nil {
		shown.Ref = v.to.at
	}
	return shown
}
