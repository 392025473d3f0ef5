package types

import (
	"slices"
	"strconv"
	"strings"
	"testing"

	"loom/api"
)

// list: its words; a - stands for an empty one.
func list(words string) []string {
	all := strings.Fields(words)
	for at := range all {
		if all[at] == "-" {
			all[at] = ""
		}
	}
	return all
}

// numbered: as many names, all unlike.
func numbered(count int) []string {
	var names []string
	for at := range count {
		names = append(names, "c"+strconv.Itoa(at))
	}
	return names
}

// chain: of as many names each one below the next, the last one below top.
func chain(count int, top string) (names, supers []string) {
	names = numbered(count)
	return names, append(slices.Clone(names[1:]), top)
}

// made: what New gives of what it must take.
func made(t testing.TB, names, supers []string) *Hier {
	t.Helper()
	h, err := New(names, supers)
	if err != api.OK || h == nil {
		t.Fatalf("P6.1: New(%q, %q): %v, %d", names, supers, h, err)
	}
	return h
}

func expectRefused(t *testing.T, names, supers []string, want api.Errno) {
	t.Helper()
	h, err := New(names, supers)
	if err != want || h != nil {
		t.Errorf("P6.1: New(%q, %q): %v, %d, not %d", names, supers, h, err, want)
	}
}

func TestNewTakes(t *testing.T) {
	for _, c := range []struct{ names, supers string }{
		{"", ""}, {"A", "-"}, {"A", "Object"}, {"A", "Fault"}, {"A B", "B -"}, {"A B", "- A"}, {"A B C", "C A -"}, {"A B", "B Fault"},
		{"object fault", "- object"}, {"Object0 _Fault", "Fault Object"}, {"a A", "A -"}, {"$ _", "_ -"}, {"nnnnnnnnnnnnnnnnnnnn", "-"},
	} {
		made(t, list(c.names), list(c.supers))
	}
	made(t, nil, []string{})
	made(t, []string{}, nil)
	made(t, nil, nil)
}

func TestNewTakesAtMostMaxClasses(t *testing.T) {
	for count := range 17 {
		h := made(t, numbered(count), make([]string, count))
		if len(h.Names()) != count+2 {
			t.Errorf("P6.1: of %d names: %q", count, h.Names())
		}
	}
	for _, count := range []int{17, 18, 19, 1000} {
		expectRefused(t, numbered(count), make([]string, count), api.ErrBig)
	}
}

func TestNewRefusesListsOfUnlikeLengths(t *testing.T) {
	for names := range 19 {
		for supers := range 19 {
			if names != supers {
				expectRefused(t, numbered(names), make([]string, supers), api.ErrName)
			}
		}
	}
}

func TestNewRefusesWhatIsNoName(t *testing.T) {
	for _, name := range []string{"", "1", "1a", "a b", " ", "a-", "a.b", "\x00", "é", "a\n", "nnnnnnnnnnnnnnnnnnnnn", strings.Repeat("n", 1000)} {
		expectRefused(t, []string{name}, []string{""}, api.ErrName)
		expectRefused(t, []string{"A", name}, []string{"", "A"}, api.ErrName)
		expectRefused(t, []string{name, "A"}, []string{"A", ""}, api.ErrName)
	}
}

func TestNewRefusesTwoOfOneName(t *testing.T) {
	for _, names := range []string{"A A", "A B A", "A B B", "Object", "Fault", "A Object", "A Fault", "Object Fault"} {
		expectRefused(t, list(names), make([]string, len(list(names))), api.ErrTwice)
	}
	last := numbered(16)
	last[15] = "c0"
	expectRefused(t, last, make([]string, 16), api.ErrTwice)
}

func TestNewRefusesSupersThatAreNotThere(t *testing.T) {
	for _, c := range []struct{ names, supers string }{
		{"A", "B"}, {"A", "a"}, {"A", "object"}, {"A", "Fault0"}, {"A", "1"}, {"A B", "- C"}, {"A B", "C -"}, {"A B", "B C"},
	} {
		expectRefused(t, list(c.names), list(c.supers), api.ErrNoClass)
	}
	for _, super := range []string{" ", "\x00", " A", "A ", strings.Repeat("n", 1000)} {
		expectRefused(t, []string{"A"}, []string{super}, api.ErrNoClass)
	}
}

func TestNewRefusesRings(t *testing.T) {
	for _, c := range []struct{ names, supers string }{
		{"A", "A"}, {"A B", "- B"}, {"A B", "A -"}, {"A B", "B A"}, {"A B C", "B C A"}, {"A B C", "C A B"},
		{"A B C", "B B -"}, {"A B C", "- A C"}, {"A B C", "B C B"}, {"A B C", "C C C"}, {"A B C D", "B A D C"}, {"A B C", "Fault C B"},
	} {
		expectRefused(t, list(c.names), list(c.supers), api.ErrCircle)
	}
	for count := 1; count <= 16; count++ {
		// Rings of every length, with classes below them.
		for bottom := range count {
			names, supers := chain(count, "c"+strconv.Itoa(bottom))
			expectRefused(t, names, supers, api.ErrCircle)
			slices.Reverse(names)
			slices.Reverse(supers)
			expectRefused(t, names, supers, api.ErrCircle)
		}
	}
}

func TestNewTellsWhatIsAskedForFirst(t *testing.T) {
	for _, c := range []struct {
		names, supers string
		want          api.Errno
	}{
		// Unlike lengths ahead of all else.
		{"A A", "-", api.ErrName}, {"Object", "", api.ErrName}, {"A", "B B", api.ErrName}, {"A", "A A", api.ErrName},
		// Along the names, one by one: a name, then whether it is there.
		{"1 A A", "- - -", api.ErrName}, {"A A 1", "- - -", api.ErrTwice}, {"A 1 A", "- - -", api.ErrName}, {"Object -", "- -", api.ErrTwice}, {"- Object", "- -", api.ErrName}, {"1 1", "- -", api.ErrName},
		// All names ahead of all supers.
		{"A 1", "X -", api.ErrName}, {"A A", "X X", api.ErrTwice}, {"A Fault", "X -", api.ErrTwice},
		{"A 1", "A -", api.ErrName}, {"A A", "A A", api.ErrTwice}, {"A Object", "A A", api.ErrTwice}, {"A B 1", "B A -", api.ErrName},
		// All supers ahead of all rings.
		{"A B", "A X", api.ErrNoClass}, {"A B", "X B", api.ErrNoClass}, {"A B C", "B A X", api.ErrNoClass},
	} {
		expectRefused(t, list(c.names), list(c.supers), c.want)
	}
	many := append(numbered(16), "1")
	expectRefused(t, many, make([]string, 17), api.ErrBig)
	many[16] = "c0"
	expectRefused(t, many, many, api.ErrBig)
	expectRefused(t, make([]string, 17), make([]string, 17), api.ErrBig)
	expectRefused(t, many, make([]string, 16), api.ErrName)
}

// sampleHier: A and B below C, D and E below Fault, F below E, G above H.
func sampleHier(t testing.TB) *Hier {
	return made(t, list("A B C D E F G H"), list("C C - Fault Fault E Object G"))
}

func TestHas(t *testing.T) {
	h := sampleHier(t)
	for _, name := range list("Object Fault A B C D E F G H") {
		if !h.Has(name) {
			t.Errorf("P6.2: Has(%q) doesn't hold", name)
		}
	}
	for _, name := range strangers() {
		if h.Has(name) {
			t.Errorf("P6.2: Has(%q) holds", name)
		}
	}
	if h := made(t, nil, nil); !h.Has("Object") || !h.Has("Fault") || h.Has("A") {
		t.Error("P6.2: Has without any class")
	}
}

// strangers: names of no class of sampleHier.
func strangers() []string {
	return []string{"", "X", "a", "AA", "object", "fault", "Object ", "1", "\x00", "A\x00", strings.Repeat("A", 1000)}
}

func TestNamesInTheirOrder(t *testing.T) {
	for _, c := range []struct{ names, supers, want string }{
		{"", "", "Object Fault"}, {"A B C D", "C C - Fault", "Object Fault A B C D"}, {"D C B A", "A A A -", "Object Fault D C B A"}, {"z A m", "- z A", "Object Fault z A m"},
	} {
		if got := made(t, list(c.names), list(c.supers)).Names(); !slices.Equal(got, list(c.want)) {
			t.Errorf("P6.2: Names of %s below %s: %q", c.names, c.supers, got)
		}
	}
	all := numbered(16)
	if got := made(t, all, make([]string, 16)).Names(); !slices.Equal(got, append(list("Object Fault"), all...)) {
		t.Errorf("P6.2: Names of as many as may be: %q", got)
	}
}

func TestAncestors(t *testing.T) {
	h := sampleHier(t)
	for _, want := range []string{"Object", "Fault Object", "A C Object", "B C Object", "C Object", "D Fault Object", "E Fault Object", "F E Fault Object", "G Object", "H G Object"} {
		if got := h.Ancestors(list(want)[0]); !slices.Equal(got, list(want)) {
			t.Errorf("P6.2: Ancestors: %q, not %s", got, want)
		}
	}
	for _, name := range strangers() {
		if got := h.Ancestors(name); len(got) != 0 {
			t.Errorf("P6.2: Ancestors(%q): %q", name, got)
		}
	}
}

func TestAncestorsOfTheLongestChain(t *testing.T) {
	names, supers := chain(16, "Fault")
	want := append(slices.Clone(names), "Fault", "Object")
	for range 2 {
		h := made(t, names, supers)
		for at, name := range want {
			if got := h.Ancestors(name); !slices.Equal(got, want[at:]) {
				t.Errorf("P6.2: Ancestors(%q): %q", name, got)
			}
		}
		slices.Reverse(names)
		slices.Reverse(supers)
	}
}

func TestSubAndCommon(t *testing.T) {
	h := sampleHier(t)
	for _, c := range []struct {
		a, b   string
		sub    bool
		common string
	}{
		{"A", "A", true, "A"}, {"A", "C", true, "C"}, {"C", "A", false, "C"}, {"A", "B", false, "C"}, {"A", "Object", true, "Object"}, {"Object", "A", false, "Object"},
		{"A", "G", false, "Object"}, {"A", "D", false, "Object"}, {"A", "Fault", false, "Object"}, {"Fault", "A", false, "Object"},
		{"D", "Fault", true, "Fault"}, {"Fault", "D", false, "Fault"}, {"D", "E", false, "Fault"}, {"D", "F", false, "Fault"}, {"F", "D", false, "Fault"}, {"F", "E", true, "E"}, {"F", "Fault", true, "Fault"},
		{"Fault", "Object", true, "Object"}, {"Object", "Fault", false, "Object"}, {"Object", "Object", true, "Object"}, {"Fault", "Fault", true, "Fault"}, {"H", "G", true, "G"}, {"H", "A", false, "Object"},
	} {
		if got := h.Sub(c.a, c.b); got != c.sub {
			t.Errorf("P6.2: Sub(%q, %q): %v", c.a, c.b, got)
		}
		if got := h.Common(c.a, c.b); got != c.common {
			t.Errorf("P6.2: Common(%q, %q): %q", c.a, c.b, got)
		}
	}
	for _, stranger := range strangers() {
		for _, other := range append(strangers(), h.Names()...) {
			if h.Sub(stranger, other) || h.Sub(other, stranger) || h.Common(stranger, other) != "" || h.Common(other, stranger) != "" {
				t.Errorf("P6.2: Sub or Common of %q and %q", stranger, other)
			}
		}
	}
}

// ancestorsByTheDocument: by pairs of a class and the one above it alone; none, where they never end.
func ancestorsByTheDocument(name string, names, supers []string) []string {
	way := []string{name}
	for way[len(way)-1] != "Object" {
		above := "Object"
		if at := slices.Index(names, way[len(way)-1]); at >= 0 && supers[at] != "" {
			above = supers[at]
		}
		if slices.Contains(way, above) {
			return nil
		}
		way = append(way, above)
	}
	return way
}

// eachSmall: all that as many classes may stand below, rings too.
func eachSmall(count int, look func(names, supers []string)) {
	names := numbered(count)
	choices := append(list("- Object Fault"), names...)
	supers := make([]string, count)
	var choose func(at int)
	choose = func(at int) {
		if at == count {
			look(names, supers)
			return
		}
		for _, super := range choices {
			supers[at] = super
			choose(at + 1)
		}
	}
	choose(0)
}

func TestAllSmallOnes(t *testing.T) {
	for count := range 5 {
		eachSmall(count, func(names, supers []string) {
			ring := slices.ContainsFunc(names, func(name string) bool { return ancestorsByTheDocument(name, names, supers) == nil })
			if ring {
				expectRefused(t, names, supers, api.ErrCircle)
			} else {
				expectByTheDocument(t, names, supers)
			}
		})
	}
}

// expectByTheDocument: P6.2 of each one and each two of them.
func expectByTheDocument(t *testing.T, names, supers []string) {
	t.Helper()
	h := made(t, names, supers)
	all := append(list("Object Fault"), names...)
	if got := h.Names(); !slices.Equal(got, all) {
		t.Errorf("P6.2: Names of %q: %q", names, got)
	}
	for _, a := range all {
		ofA := ancestorsByTheDocument(a, names, supers)
		if got := h.Ancestors(a); !slices.Equal(got, ofA) {
			t.Errorf("P6.2: %q below %q: Ancestors(%q): %q", names, supers, a, got)
		}
		for _, b := range all {
			ofB := ancestorsByTheDocument(b, names, supers)
			if got := h.Sub(a, b); got != slices.Contains(ofA, b) {
				t.Errorf("P6.2: %q below %q: Sub(%q, %q): %v", names, supers, a, b, got)
			}
			first := ofA[slices.IndexFunc(ofA, func(name string) bool { return slices.Contains(ofB, name) })]
			if got := h.Common(a, b); got != first {
				t.Errorf("P6.2: %q below %q: Common(%q, %q): %q", names, supers, a, b, got)
			}
		}
	}
}
