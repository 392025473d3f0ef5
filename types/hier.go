package types

import (
	"slices"

	"loom/api"
	"loom/class"
)

// Places of the classes that are always there.
const (
	object = iota
	fault
)

// Hier: classes, each with the one above it.
type Hier struct {
	names []string       // Object, Fault, the others in their order
	place map[string]int // of each of names
	above []int          // the place of the one above each; nobody asks for Object's
}

// New: the classes of names, each below the one of supers at its place; an error, if they can't be.
func New(names, supers []string) (*Hier, api.Errno) {
	if len(names) != len(supers) {
		return nil, api.ErrName
	}
	if len(names) > api.MaxClasses {
		return nil, api.ErrBig
	}
	h := &Hier{
		names: []string{"Object", "Fault"},
		place: map[string]int{"Object": object, "Fault": fault},
		above: []int{object, object},
	}
	// All names ahead of any super: a class may stand ahead of the one above it.
	if err := h.addNames(names); err != api.OK {
		return nil, err
	}
	if err := h.addSupers(supers); err != api.OK {
		return nil, err
	}
	if h.hasRing() {
		return nil, api.ErrCircle
	}
	return h, api.OK
}

func (h *Hier) addNames(names []string) api.Errno {
	for _, name := range names {
		if !class.IsName(name) {
			return api.ErrName
		}
		if h.Has(name) {
			return api.ErrTwice
		}
		h.place[name] = len(h.names)
		h.names = append(h.names, name)
	}
	return api.OK
}

func (h *Hier) addSupers(supers []string) api.Errno {
	for _, super := range supers {
		if super == "" {
			super = "Object"
		}
		at, there := h.place[super]
		if !there {
			return api.ErrNoClass
		}
		h.above = append(h.above, at)
	}
	return api.OK
}

// hasRing: some class is above itself just where the way up from some class never ends.
func (h *Hier) hasRing() bool {
	for at := range h.names {
		if _, ends := h.wayUp(at); !ends {
			return true
		}
	}
	return false
}

// wayUp: the places from one class up to Object; false, if they never come there.
func (h *Hier) wayUp(at int) (places []int, ends bool) {
up:
	// As many places as there are classes, and Object not among them: one of them was passed twice.
	if len(places) == len(h.names) {
		goto out
	}
	places = append(places, at)
	if at == object {
		ends = true
		goto out
	}
	at = h.above[at]
	goto up
out:
	return places, ends
}

// Has: whether there is a class of that name.
func (h *Hier) Has(name string) bool {
	_, there := h.place[name]
	return there
}

// Names: Object, Fault, the others in the order in which New was told them.
func (h *Hier) Names() []string { return slices.Clone(h.names) }

// Ancestors: name, the one above it, and so on up to Object; none, if it isn't there.
func (h *Hier) Ancestors(name string) []string {
	at, there := h.place[name]
	if !there {
		return nil
	}
	// It ends: New has refused all rings.
	places, _ := h.wayUp(at)
	list := make([]string, 0, len(places))
	for _, at := range places {
		list = append(list, h.names[at])
	}
	return list
}

// Sub: whether both are there and a is of class b, or below.
func (h *Hier) Sub(a, b string) bool { return slices.Contains(h.Ancestors(a), b) }

// Common: the nearest one that both are of or below; empty, if one isn't there.
func (h *Hier) Common(a, b string) string {
	others := h.Ancestors(b)
	for _, name := range h.Ancestors(a) {
		if slices.Contains(others, name) {
			return name
		}
	}
	return ""
}
