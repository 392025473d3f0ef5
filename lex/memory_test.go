package lex

import (
	"slices"
	"strings"
	"testing"
	"unsafe"

	"loom/api"
)

const someSource = "class A { int x; } // a note\nx = y == 3i + 20c * 0017;"

// spoil: all of a list, its spare room too, and what is put behind it.
func spoil(l []api.Token) {
	other := api.Token{Kind: 77, At: 78, Text: "spoilt", Int: 79, Cplx: 80i}
	_ = append(l, other, other, other)
	l = l[:cap(l)]
	for i := range l {
		l[i] = other
	}
}

func TestAListIsWhoseItIs(t *testing.T) {
	for _, src := range []string{"", ";", someSource, strings.Repeat("a;", 1000)} {
		one, _, _ := All(src)
		was := slices.Clone(one)
		other, _, _ := All(src)
		spoil(other)
		if !slices.EqualFunc(one, was, sameToken) {
			t.Fatalf("rule 3: %q: an answer is touched by what is done with another one: %v", short(src), one)
		}
		spoil(one)
		tells(t, src, was...)
	}
}

// A source or a text that lies in bytes that change: only what was copied out of it stays.
func TestNothingHandedInIsKept(t *testing.T) {
	b := []byte(someSource)
	l, _, _ := All(unsafe.String(&b[0], len(b)))
	if string(b) != someSource {
		t.Fatalf("rule 3: the source was changed: %q", b)
	}
	for i := range b {
		b[i] = '#'
	}
	want, _, _ := model(someSource)
	if !slices.EqualFunc(l, want, sameToken) {
		t.Fatalf("rule 3: the source is kept: %v", l)
	}
	for _, size := range []int{1, 2, 5} {
		b := []byte("text")
		l := slices.Repeat([]api.Token{{Kind: api.KName, Text: unsafe.String(&b[0], len(b))}}, size)
		s := Print(l)
		copy(b, "####")
		if want := strings.TrimSuffix(strings.Repeat("text ", size), " "); s != want {
			t.Fatalf("rule 3: a text is kept: %q, not %q", s, want)
		}
	}
}

func TestPrintChangesNothing(t *testing.T) {
	all, _, _ := All(someSource)
	for size := range len(all) + 1 {
		was := slices.Clone(all)
		// The rest of all is the spare room of what is handed in.
		s := Print(all[:size])
		if !slices.EqualFunc(all, was, sameToken) {
			t.Fatalf("rule 3: Print changed what it was handed: %v", all)
		}
		if s != Print(slices.Clip(slices.Clone(all[:size]))) {
			t.Fatalf("P18.2: the spare room is printed: %q", s)
		}
	}
}

func TestThePlaceStandsBesideAnErrorAlone(t *testing.T) {
	for src, want := range map[string]int{"ab cd": 0, " ;": 0, "ab #": 3} {
		if _, at, _ := All(src); at != want {
			t.Errorf("P18.1: %q: place %d, not %d", src, at, want)
		}
	}
}
