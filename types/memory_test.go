package types

import (
	"slices"
	"testing"

	"loom/api"
)

// roomy: words with spare room behind them.
func roomy(words string) []string { return append(make([]string, 0, 40), list(words)...) }

// overwrite: all of a list, its spare room too.
func overwrite(words []string) {
	words = words[:cap(words)]
	for at := range words {
		words[at] = "Z"
	}
}

func TestChangesNothingThatIsHandedIn(t *testing.T) {
	for _, c := range []struct{ names, supers string }{{"A B C", "C C -"}, {"A A", "- -"}, {"A", "X"}, {"A B", "B A"}, {"1", "-"}} {
		names, supers := roomy(c.names), roomy(c.supers)
		New(names, supers)
		if !slices.Equal(names[:40], roomy(c.names)[:40]) || !slices.Equal(supers[:40], roomy(c.supers)[:40]) {
			t.Errorf("New changed its lists: %q, %q", names[:40], supers[:40])
		}
	}
}

func TestKeepsNothingThatIsHandedIn(t *testing.T) {
	names, supers := roomy("A B C"), roomy("C C -")
	h := made(t, names, supers)
	overwrite(names)
	overwrite(supers)
	expectUntouched(t, h)
}

func TestAnswersAreNewMemory(t *testing.T) {
	h := made(t, list("A B C"), list("C C -"))
	names, ancestors := h.Names(), h.Ancestors("A")
	for range 2 {
		overwrite(h.Names())
		for _, name := range h.Names() {
			overwrite(h.Ancestors(name))
		}
		expectUntouched(t, h)
	}
	if !slices.Equal(names, list("Object Fault A B C")) || !slices.Equal(ancestors, list("A C Object")) {
		t.Errorf("P6.2: earlier answers: %q, %q", names, ancestors)
	}
}

func TestKeepsNothingOfOthers(t *testing.T) {
	h := made(t, list("A B C"), list("C C -"))
	made(t, list("D A"), list("A Fault"))
	New(list("A E"), list("E A"))
	expectUntouched(t, h)
}

// expectUntouched: h is as New made it, of A and B below C.
func expectUntouched(t *testing.T, h *Hier) {
	t.Helper()
	if !slices.Equal(h.Names(), list("Object Fault A B C")) || !slices.Equal(h.Ancestors("A"), list("A C Object")) || h.Has("Z") || h.Has("D") {
		t.Errorf("P6.2: %q, %q", h.Names(), h.Ancestors("A"))
	}
	if !h.Sub("B", "C") || h.Common("A", "B") != "C" || h.Merge(ref("A"), ref("B")) != ref("C") || h.Fits(ref("A"), ref("Fault")) {
		t.Error("P6.2: Sub, Common, Merge or Fits")
	}
}

func FuzzNew(f *testing.F) {
	f.Add("A", "B", "B", "")
	f.Add("A", "B", "Object", "A")
	f.Fuzz(func(t *testing.T, one, two, aboveOne, aboveTwo string) {
		names, supers := []string{one, two}, []string{aboveOne, aboveTwo}
		h, err := New(names, supers)
		if (h == nil) != (err != api.OK) {
			t.Fatalf("P6.1: New(%q, %q): %v, %d", names, supers, h, err)
		}
		if err == api.OK {
			expectByTheDocument(t, names, supers)
			expectLeast(t, h)
		}
	})
}
