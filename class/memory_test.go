package class

import (
	"bytes"
	"slices"
	"testing"

	"loom/api"
)

// roomy: the sample, with spare room behind each of its lists.
func roomy() api.Class {
	c := sample()
	c.Pool = append(make([]api.Const, 0, 20), c.Pool...)
	c.Fields = append(make([]api.Field, 0, 20), c.Fields...)
	c.Methods = append(make([]api.Method, 0, 20), c.Methods...)
	for at := range c.Methods {
		m := &c.Methods[at]
		m.Params = append(make([]api.Type, 0, 20), m.Params...)
		m.Code = append(make([]api.Ins, 0, 40), m.Code...)
		m.Handlers = append(make([]api.Handler, 0, 20), m.Handlers...)
	}
	return c
}

// whole: c with the spare room of its lists in them.
func whole(c api.Class) api.Class {
	c.Pool = c.Pool[:cap(c.Pool)]
	c.Fields = c.Fields[:cap(c.Fields)]
	c.Methods = slices.Clone(c.Methods[:cap(c.Methods)])
	for at := range c.Methods {
		m := &c.Methods[at]
		m.Params = m.Params[:cap(m.Params)]
		m.Code = m.Code[:cap(m.Code)]
		m.Handlers = m.Handlers[:cap(m.Handlers)]
	}
	return c
}

// overwrite: all of a list, its spare room too.
func overwrite[T any](list []T, by T) {
	list = list[:cap(list)]
	for at := range list {
		list[at] = by
	}
}

func TestChangesNothingThatIsHandedIn(t *testing.T) {
	c := roomy()
	given := append(make([]byte, 0, 1000), bytesByTheDocument(c)...)
	before := slices.Clone(given[:cap(given)])
	Check(c)
	Encode(c)
	Same(c, c)
	Decode(given)
	if !Same(whole(c), whole(roomy())) {
		t.Errorf("a class that was handed in is %v", whole(c))
	}
	if !bytes.Equal(given[:cap(given)], before) {
		t.Errorf("bytes that were handed in are %x", given[:cap(given)])
	}
}

func TestBytesAreNewMemory(t *testing.T) {
	c := sample()
	first, _ := Encode(c)
	second, _ := Encode(c)
	overwrite(first, 0xee)
	third, _ := Encode(c)
	if want := bytesByTheDocument(sample()); !bytes.Equal(second, want) || !bytes.Equal(third, want) {
		t.Errorf("P5.3: Encode: %x, then %x, not %x", second, third, want)
	}
}

func TestClassesAreNewMemory(t *testing.T) {
	given := bytesByTheDocument(sample())
	first, _ := Decode(given)
	second, _ := Decode(given)
	for _, ofOneList := range overwrites() {
		ofOneList(&first)
	}
	overwrite(given, 0xee)
	if !Same(second, sample()) {
		t.Errorf("P5.4: Decode: %v", second)
	}
}

func TestListsOfAClassShareNothing(t *testing.T) {
	for at, ofOneList := range overwrites() {
		c, _ := Decode(bytesByTheDocument(sample()))
		ofOneList(&c)
		if !Same(c, sample()) {
			t.Errorf("P5.4: list %d shares memory: %v", at, c)
		}
	}
}

// overwrites: for each list of the sample one that overwrites it, and lays what was there in its place again.
func overwrites() []func(c *api.Class) {
	list := []func(c *api.Class){
		func(c *api.Class) { overwrite(c.Pool, api.Const{Kind: 99}); c.Pool = sample().Pool },
		func(c *api.Class) { overwrite(c.Fields, api.Field{Name: "-"}); c.Fields = sample().Fields },
	}
	for at, m := range sample().Methods {
		list = append(list,
			func(c *api.Class) { overwrite(c.Methods[at].Params, plain(99)); c.Methods[at].Params = m.Params },
			func(c *api.Class) { overwrite(c.Methods[at].Code, api.Ins{Op: 99}); c.Methods[at].Code = m.Code },
			func(c *api.Class) {
				overwrite(c.Methods[at].Handlers, api.Handler{To: 99})
				c.Methods[at].Handlers = m.Handlers
			},
		)
	}
	return append(list, func(c *api.Class) { overwrite(c.Methods, api.Method{Name: "-"}); c.Methods = sample().Methods })
}
