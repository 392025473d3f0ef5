package types

import (
	"math"
	"testing"

	"loom/api"
)

func plain(kind int) api.Type { return api.Type{Kind: kind} }

func ref(class string) api.Type { return api.Type{Kind: api.TRef, Class: class} }

// noKinds: Kinds that are none.
func noKinds() []int {
	return []int{-1, 7, 8, 77, 257, 260, -4, math.MaxInt32, math.MaxInt, math.MinInt}
}

// someTypes: of each Kind, of Kinds that are none, of classes that sampleHier has and hasn't.
func someTypes() []api.Type {
	all := []api.Type{
		plain(api.TVoid), plain(api.TInt), plain(api.TCplx), plain(api.TArr), plain(api.TNull), plain(api.TTop),
		ref("Object"), ref("Fault"), ref("A"), ref("B"), ref("C"), ref("D"), ref("F"), ref(""), ref("X"), ref("Y"),
	}
	for _, kind := range noKinds() {
		all = append(all, plain(kind))
	}
	return all
}

// fitsByTheDocument: P6.3, word by word.
func fitsByTheDocument(h *Hier, a, b api.Type) bool {
	oneKind := a.Kind == b.Kind && a.Kind >= api.TInt && a.Kind <= api.TArr
	bothRefs := a.Kind == api.TRef && b.Kind == api.TRef && h.Sub(a.Class, b.Class)
	ofNull := a.Kind == api.TNull && (b.Kind == api.TNull || b.Kind == api.TArr || b.Kind == api.TRef)
	return b.Kind == api.TTop || oneKind || bothRefs || ofNull
}

func TestFits(t *testing.T) {
	h := sampleHier(t)
	for _, c := range []struct {
		a, b api.Type
		want bool
	}{
		{plain(api.TInt), plain(api.TInt), true}, {plain(api.TCplx), plain(api.TCplx), true}, {plain(api.TArr), plain(api.TArr), true}, {plain(api.TNull), plain(api.TNull), true}, {plain(api.TTop), plain(api.TTop), true},
		{plain(api.TVoid), plain(api.TVoid), false}, {plain(api.TVoid), plain(api.TTop), true}, {plain(77), plain(77), false}, {plain(77), plain(api.TTop), true}, {plain(api.TTop), plain(77), false}, {plain(-1), plain(-1), false},
		{plain(api.TInt), plain(api.TCplx), false}, {plain(api.TCplx), plain(api.TInt), false}, {plain(api.TInt), plain(api.TArr), false}, {plain(api.TInt), plain(api.TTop), true}, {plain(api.TTop), plain(api.TInt), false}, {plain(api.TTop), ref("A"), false},
		{plain(api.TNull), plain(api.TArr), true}, {plain(api.TArr), plain(api.TNull), false}, {plain(api.TNull), plain(api.TInt), false}, {plain(api.TNull), plain(api.TCplx), false}, {plain(api.TNull), plain(api.TVoid), false},
		{plain(api.TNull), ref("A"), true}, {plain(api.TNull), ref("X"), true}, {plain(api.TNull), ref(""), true}, {ref("A"), plain(api.TNull), false}, {plain(api.TArr), ref("Object"), false}, {ref("Object"), plain(api.TArr), false},
		{ref("A"), ref("A"), true}, {ref("A"), ref("C"), true}, {ref("C"), ref("A"), false}, {ref("A"), ref("B"), false}, {ref("F"), ref("Fault"), true}, {ref("A"), ref("Object"), true}, {ref("Object"), ref("A"), false},
		{ref("X"), ref("X"), false}, {ref("X"), ref("Object"), false}, {ref("A"), ref("X"), false}, {ref("X"), plain(api.TTop), true}, {ref(""), ref(""), false}, {ref("A"), ref(""), false},
	} {
		if got := h.Fits(c.a, c.b); got != c.want {
			t.Errorf("P6.3: Fits(%v, %v): %v", c.a, c.b, got)
		}
	}
	for _, a := range someTypes() {
		for _, b := range someTypes() {
			if got, want := h.Fits(a, b), fitsByTheDocument(h, a, b); got != want {
				t.Errorf("P6.3: Fits(%v, %v): %v", a, b, got)
			}
		}
	}
}

func TestFitsAsksForClassesOfTRefsAlone(t *testing.T) {
	h := sampleHier(t)
	for _, a := range someTypes() {
		for _, b := range someTypes() {
			more, other := a, b
			if a.Kind != api.TRef {
				more.Class = "A"
			}
			if b.Kind != api.TRef {
				other.Class = "X"
			}
			if got, want := h.Fits(more, other), fitsByTheDocument(h, a, b); got != want {
				t.Errorf("P6.3: Fits(%v, %v): %v", more, other, got)
			}
		}
	}
}

// mergeByTheDocument: P6.3, word by word.
func mergeByTheDocument(h *Hier, a, b api.Type) api.Type {
	if a.Kind == b.Kind && a.Class == b.Class {
		return a
	}
	for _, two := range [][2]api.Type{{a, b}, {b, a}} {
		if two[0].Kind == api.TNull && (two[1].Kind == api.TArr || two[1].Kind == api.TRef) {
			return two[1]
		}
	}
	if a.Kind == api.TRef && b.Kind == api.TRef && h.Common(a.Class, b.Class) != "" {
		return ref(h.Common(a.Class, b.Class))
	}
	return plain(api.TTop)
}

func TestMerge(t *testing.T) {
	h := sampleHier(t)
	top := plain(api.TTop)
	for _, c := range []struct{ a, b, want api.Type }{
		{ref("A"), ref("B"), ref("C")}, {ref("A"), ref("C"), ref("C")}, {ref("A"), ref("D"), ref("Object")}, {ref("D"), ref("F"), ref("Fault")}, {ref("A"), ref("A"), ref("A")}, {ref("A"), ref("Object"), ref("Object")},
		{ref("A"), ref("X"), top}, {ref("X"), ref("X"), ref("X")}, {ref("X"), ref("Y"), top}, {ref(""), ref(""), ref("")}, {ref(""), ref("Object"), top}, {ref("X"), ref("Object"), top},
		{plain(api.TNull), ref("A"), ref("A")}, {plain(api.TNull), ref("X"), ref("X")}, {plain(api.TNull), ref(""), ref("")}, {plain(api.TNull), plain(api.TArr), plain(api.TArr)}, {plain(api.TNull), plain(api.TNull), plain(api.TNull)},
		{plain(api.TNull), plain(api.TInt), top}, {plain(api.TNull), plain(api.TCplx), top}, {plain(api.TNull), plain(api.TVoid), top}, {plain(api.TNull), top, top}, {plain(api.TNull), plain(77), top},
		{plain(api.TInt), plain(api.TInt), plain(api.TInt)}, {plain(api.TCplx), plain(api.TCplx), plain(api.TCplx)}, {plain(api.TArr), plain(api.TArr), plain(api.TArr)}, {plain(api.TVoid), plain(api.TVoid), plain(api.TVoid)}, {plain(77), plain(77), plain(77)}, {plain(-1), plain(-1), plain(-1)}, {top, top, top},
		{plain(api.TInt), plain(api.TCplx), top}, {plain(api.TInt), plain(api.TArr), top}, {plain(api.TArr), ref("Object"), top}, {plain(api.TInt), top, top}, {ref("A"), top, top}, {plain(api.TVoid), plain(api.TInt), top}, {plain(77), plain(78), top}, {plain(77), top, top},
	} {
		if got := h.Merge(c.a, c.b); got != c.want {
			t.Errorf("P6.3: Merge(%v, %v): %v", c.a, c.b, got)
		}
		if got := h.Merge(c.b, c.a); got != c.want {
			t.Errorf("P6.3: Merge(%v, %v): %v", c.b, c.a, got)
		}
	}
	for _, a := range someTypes() {
		for _, b := range someTypes() {
			if got, want := h.Merge(a, b), mergeByTheDocument(h, a, b); got != want {
				t.Errorf("P6.3: Merge(%v, %v): %v, not %v", a, b, got, want)
			}
		}
	}
}

// The same is what is alike in Kind and Class, whatever the Kind; a class has no part in what else is asked of a type that is no TRef.
func TestMergeOfTypesWithAClassThatIsNotTheirs(t *testing.T) {
	h := sampleHier(t)
	all := someTypes()
	for _, kind := range append(noKinds(), api.TVoid, api.TInt, api.TCplx, api.TArr, api.TNull, api.TTop) {
		all = append(all, api.Type{Kind: kind, Class: "A"}, api.Type{Kind: kind, Class: "B"}, api.Type{Kind: kind, Class: "X"})
	}
	for _, a := range all {
		for _, b := range all {
			if got, want := h.Merge(a, b), mergeByTheDocument(h, a, b); got != want {
				t.Errorf("P6.3: Merge(%v, %v): %v, not %v", a, b, got, want)
			}
		}
	}
}

func TestWords(t *testing.T) {
	for kind, want := range []int{api.TVoid: 0, api.TInt: 1, api.TCplx: 2, api.TArr: 1, api.TRef: 1, api.TNull: 1, api.TTop: 0} {
		for _, class := range []string{"", "A", "X"} {
			if got := Words(api.Type{Kind: kind, Class: class}); got != want {
				t.Errorf("P6.3: Words of Kind %d, Class %q: %d", kind, class, got)
			}
		}
	}
	for _, kind := range noKinds() {
		if got := Words(plain(kind)); got != 0 {
			t.Errorf("P6.3: Words of Kind %d: %d", kind, got)
		}
	}
}

// typesOf: all types that a value, or a place without one, may have there. (TVoid and classes that aren't there fit nothing but TTop.)
func typesOf(h *Hier) []api.Type {
	all := []api.Type{plain(api.TInt), plain(api.TCplx), plain(api.TArr), plain(api.TNull), plain(api.TTop)}
	for _, name := range h.Names() {
		all = append(all, ref(name))
	}
	return all
}

// expectLeast: P6.4 of each two types of h, against each third one.
func expectLeast(t *testing.T, h *Hier) {
	t.Helper()
	all := typesOf(h)
	for _, a := range all {
		for _, b := range all {
			m := h.Merge(a, b)
			if !h.Fits(a, m) || !h.Fits(b, m) {
				t.Errorf("P6.4: %v and %v don't both fit %v", a, b, m)
			}
			for _, c := range all {
				if h.Fits(a, c) && h.Fits(b, c) && !h.Fits(m, c) {
					t.Errorf("P6.4: %v and %v fit %v too, below %v", a, b, c, m)
				}
			}
		}
	}
}

func TestMergeIsTheLeastWhereBothFit(t *testing.T) {
	expectLeast(t, sampleHier(t))
	expectLeast(t, made(t, nil, nil))
	names, supers := chain(16, "Fault")
	expectLeast(t, made(t, names, supers))
	for count := range 4 {
		eachSmall(count, func(names, supers []string) {
			if h, err := New(names, supers); err == api.OK {
				expectLeast(t, h)
			}
		})
	}
}

// No two types fit one another, and what fits what fits a third one fits that: else there would be no least one.
func TestFitsIsAnOrder(t *testing.T) {
	h := sampleHier(t)
	for _, a := range typesOf(h) {
		for _, b := range typesOf(h) {
			if h.Fits(a, b) && h.Fits(b, a) != (a == b) {
				t.Errorf("P6.4: %v and %v fit one another", a, b)
			}
			for _, c := range typesOf(h) {
				if h.Fits(a, b) && h.Fits(b, c) && !h.Fits(a, c) {
					t.Errorf("P6.4: %v fits %v, and that %v", a, b, c)
				}
			}
		}
	}
}
