package interp

import (
	"math"
	"slices"

	"loom/api"
	"loom/gc"
)

// arrays: the heap's class of an array.
const arrays = 1000

// alloc: a new object of a thread; 0, if there is no room even behind a collection: then the machine is over.
func (m *Machine) alloc(t *thread, class, words int) int {
	if !gc.Fits(m.heap, words) {
		m.collect()
	}
	at, err := m.heap.Alloc(class, words)
	if err != api.OK {
		m.stop(api.Event{Thread: t.id, Kind: api.EMemory})
	}
	return at
}

// object: a new one of a class, as alloc.
func (m *Machine) object(t *thread, class int) int {
	return m.alloc(t, class, m.classes[class].words)
}

// collect: what is released has no lock any more: another object may be at its address soon.
func (m *Machine) collect() {
	m.collections++
	all := m.heap.All()
	gc.Collect(m.heap, m.roots(), m.refs)
	kept := m.heap.All()
	for _, at := range all {
		if _, is := slices.BinarySearch(kept, at); !is {
			m.locks.Forget(at)
		}
	}
}

// roots: what frames refer to, and what buffers name and refer to.
func (m *Machine) roots() []int {
	var list []int
	for _, t := range m.threads {
		for _, f := range t.frames {
			locals, stack, _ := m.maps.At(f.method.owner, f.method.name, f.pc)
			list = append(list, refsAmong(f.locals, locals)...)
			list = append(list, refsAmong(f.stack, stack)...)
		}
		for _, w := range t.buffer {
			list = append(list, w.at, w.value.Ref)
		}
	}
	return list
}

// refsAmong: there may be fewer values than are told: what a call, a wait or a join has taken is told, but isn't there any more.
func refsAmong(values []api.Value, are []bool) []int {
	var list []int
	for at, v := range values {
		if are[at] {
			list = append(list, v.Ref)
		}
	}
	return list
}

// refs: what an object's words refer to.
func (m *Machine) refs(at int) []int {
	number, _ := m.heap.Class(at)
	if number == arrays {
		return nil
	}
	var list []int
	for _, word := range m.classes[number].refs {
		to, _ := m.heap.Get(at, word)
		list = append(list, int(to))
	}
	return list
}

// classOf: of an object that is no array.
func (m *Machine) classOf(at int) class {
	number, _ := m.heap.Class(at)
	return m.classes[number]
}

func (m *Machine) isOf(at, class int) bool { return slices.Contains(m.classOf(at).above, class) }

// called: the method of that name that is called on an object.
func (m *Machine) called(at int, name string) *method { return m.classOf(at).methods[name] }

// get: the value of that kind that lies in an object.
func (m *Machine) get(s spot, kind int) api.Value {
	bits, _ := m.heap.Get(s.at, s.word)
	switch kind {
	case api.TInt:
		return integer(int64(bits))
	case api.TCplx:
		more, _ := m.heap.Get(s.at, s.word+1)
		return complexNumber(complex(math.Float64frombits(bits), math.Float64frombits(more)))
	}
	return reference(kind, int(bits))
}

// set: a value lies in an object.
func (m *Machine) set(s spot, v api.Value) {
	switch v.Kind {
	case api.TInt:
		m.heap.Put(s.at, s.word, uint64(v.Int))
	case api.TCplx:
		m.heap.Put(s.at, s.word, math.Float64bits(real(v.Cplx)))
		m.heap.Put(s.at, s.word+1, math.Float64bits(imag(v.Cplx)))
	default:
		m.heap.Put(s.at, s.word, uint64(v.Ref))
	}
}

// create: a new object, or a new array instead of its size.
func (m *Machine) create(t *thread, f *frame, i api.Ins) int {
	if i.Op == api.New {
		at := m.object(t, f.method.pool[i.A].class)
		if at == 0 {
			return placed
		}
		f.push(reference(api.TRef, at))
		return done
	}
	size := f.under(0).Int
	if size < 0 || size > api.MaxArray {
		return api.FSize
	}
	at := m.alloc(t, arrays, int(size))
	if at == 0 {
		return placed
	}
	f.put(reference(api.TArr, at), 1)
	return done
}

// field: what one of an object is, or becomes.
func (m *Machine) field(t *thread, f *frame, i api.Ins) int {
	slot, takes := f.method.pool[i.A].slot, effects[i.Op].takes
	at := f.under(takes - 1).Ref
	if at == 0 {
		return api.FNull
	}
	if slot.Field.Volatile {
		m.flush(t)
	}
	s := spot{at, slot.At}
	if i.Op == api.GetField {
		f.put(m.read(t, s, slot.Field.Type.Kind), takes)
		return done
	}
	m.write(t, s, f.under(0), slot.Field.Volatile)
	f.take(takes)
	return done
}

// element: what one of an array is, or becomes, or how many there are.
func (m *Machine) element(t *thread, f *frame, op int) int {
	takes := effects[op].takes
	at := f.under(takes - 1).Ref
	if at == 0 {
		return api.FNull
	}
	size, _ := m.heap.Words(at)
	if op == api.ArrLen {
		f.put(integer(int64(size)), 1)
		return done
	}
	index := f.under(takes - 2).Int
	if index < 0 || index >= int64(size) {
		return api.FBounds
	}
	s := spot{at, int(index)}
	if op == api.ArrGet {
		f.put(m.read(t, s, api.TInt), takes)
		return done
	}
	m.write(t, s, f.under(0), false)
	f.take(takes)
	return done
}
