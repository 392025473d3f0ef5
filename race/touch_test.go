package race

import (
	"testing"

	"loom/api"
)

// told: calls one behind the other, and what each one answers, t of a race.
type told struct {
	name  string
	calls []call
	want  string
	races int
}

func hold(t testing.TB, promise string, rows []told) {
	t.Helper()
	for _, row := range rows {
		w, got := New(), ""
		for _, c := range row.calls {
			got += letter(run(w, c))
		}
		if got != row.want || w.Races() != row.races {
			t.Errorf("%s: %s: %s, %d races, not %s, %d", promise, row.name, got, w.Races(), row.want, row.races)
		}
	}
}

// letter: t, f, or a dot of a call that answers nothing.
func letter(answer string) string {
	if answer == "" {
		return "."
	}
	return answer[:1]
}

func TestTwoOfOneWord(t *testing.T) {
	hold(t, "P17.2", []told{
		{"the example", []call{{"write", 1, 5, 0}, {"write", 2, 5, 0}}, "ft", 1},
		{"two reads", []call{{"read", 1, 5, 0}, {"read", 2, 5, 0}}, "ff", 0},
		{"a read and a write", []call{{"read", 1, 5, 0}, {"write", 2, 5, 0}}, "ft", 1},
		{"a write and a read", []call{{"write", 1, 5, 0}, {"read", 2, 5, 0}}, "ft", 1},
		{"two reads by one", []call{{"read", 1, 5, 0}, {"read", 1, 5, 0}}, "ff", 0},
		{"a read and a write by one", []call{{"read", 1, 5, 0}, {"write", 1, 5, 0}}, "ff", 0},
		{"a write and a read by one", []call{{"write", 1, 5, 0}, {"read", 1, 5, 0}}, "ff", 0},
		{"two writes by one", []call{{"write", 1, 5, 0}, {"write", 1, 5, 0}}, "ff", 0},
		{"two words of an object", []call{{"write", 1, 5, 0}, {"write", 2, 5, 1}}, "ff", 0},
		{"two objects", []call{{"write", 1, 5, 0}, {"write", 2, 6, 0}}, "ff", 0},
	})
}

// ways: how one thread's past comes to be known to another one, by the calls between.
func ways() map[string][]call {
	return map[string][]call{
		"a lock":           {{"release", 1, 9, 0}, {"acquire", 2, 9, 0}},
		"a lock of it":     {{"release", 1, 5, 0}, {"acquire", 2, 5, 0}},
		"a volatile":       {{"vwrite", 1, 9, 1}, {"vread", 2, 9, 1}},
		"a volatile of it": {{"vwrite", 1, 5, 1}, {"vread", 2, 5, 1}},
		"begin":            {{"begin", 2, 1, 0}},
		"joined":           {{"end", 1, 0, 0}, {"joined", 2, 1, 0}},
		"another's lock":   {{"release", 1, 9, 0}, {"acquire", 3, 9, 0}, {"release", 3, 8, 0}, {"acquire", 2, 8, 0}},
		"another's begin":  {{"begin", 3, 1, 0}, {"begin", 2, 3, 0}},
		"another's end":    {{"end", 1, 0, 0}, {"joined", 3, 1, 0}, {"end", 3, 0, 0}, {"joined", 2, 3, 0}},
		"all of them":      {{"end", 1, 0, 0}, {"joined", 3, 1, 0}, {"begin", 4, 3, 0}, {"release", 4, 9, 0}, {"acquire", 5, 9, 0}, {"vwrite", 5, 9, 0}, {"vread", 2, 9, 0}},
	}
}

// noWays: what has the look of a way, and is none.
func noWays() map[string][]call {
	return map[string][]call{
		"nothing":                    nil,
		"another lock":               {{"release", 1, 9, 0}, {"acquire", 2, 8, 0}},
		"acquired ahead of released": {{"acquire", 2, 9, 0}, {"release", 1, 9, 0}},
		"the other way round":        {{"release", 2, 9, 0}, {"acquire", 1, 9, 0}},
		"acquired by both":           {{"acquire", 1, 9, 0}, {"acquire", 2, 9, 0}},
		"released by both":           {{"release", 1, 9, 0}, {"release", 2, 9, 0}},
		"another volatile":           {{"vwrite", 1, 9, 1}, {"vread", 2, 9, 0}},
		"both write a volatile":      {{"vwrite", 1, 9, 1}, {"vwrite", 2, 9, 1}},
		"both read a volatile":       {{"vread", 1, 9, 1}, {"vread", 2, 9, 1}},
		"read ahead of written":      {{"vread", 2, 9, 1}, {"vwrite", 1, 9, 1}},
		"a lock and a volatile":      {{"release", 1, 9, 0}, {"vread", 2, 9, 0}},
		"a volatile and a lock":      {{"vwrite", 1, 9, 0}, {"acquire", 2, 9, 0}},
		"begun the other way round":  {{"begin", 1, 2, 0}},
		"begun by nobody":            {{"begin", 2, 0, 0}},
		"begun by none":              {{"begin", 2, 99, 0}},
		"begun by another":           {{"begin", 2, 3, 0}},
		"begins another":             {{"begin", 3, 1, 0}},
		"by itself":                  {{"begin", 2, 2, 0}, {"begin", 1, 1, 0}},
		"joined, not ended":          {{"joined", 2, 1, 0}},
		"joined ahead of the end":    {{"joined", 2, 1, 0}, {"end", 1, 0, 0}},
		"ended, not joined":          {{"end", 1, 0, 0}},
		"joined by the other one":    {{"end", 2, 0, 0}, {"joined", 1, 2, 0}},
		"joined another":             {{"end", 1, 0, 0}, {"end", 3, 0, 0}, {"joined", 2, 3, 0}},
		"a plain word":               {{"write", 1, 9, 0}, {"read", 2, 9, 1}},
	}
}

// between: an access by 1, calls, an access by 2: what the second one answers.
func between(one string, calls []call, other string) string {
	w := New()
	run(w, call{one, 1, 5, 0})
	for _, c := range calls {
		run(w, c)
	}
	return run(w, call{other, 2, 5, 0})
}

func TestWhatIsOrderedIsNoRace(t *testing.T) {
	for name, calls := range ways() {
		for _, one := range []string{"read", "write"} {
			for _, other := range []string{"read", "write"} {
				if got := between(one, calls, other); got != "false" {
					t.Errorf("P17.3: a %s, %s, a %s: %s", one, name, other, got)
				}
			}
		}
	}
}

func TestWhatIsNotOrderedIsARace(t *testing.T) {
	for name, calls := range noWays() {
		for _, pair := range []struct{ one, other, want string }{{"read", "read", "false"}, {"read", "write", "true"}, {"write", "read", "true"}, {"write", "write", "true"}} {
			if got := between(pair.one, calls, pair.other); got != pair.want {
				t.Errorf("P17.2: a %s, %s, a %s: %s", pair.one, name, pair.other, got)
			}
		}
	}
}

// What comes behind the call that hands on isn't known to who was handed it.
func TestWhatComesTooLate(t *testing.T) {
	for name, calls := range ways() {
		if name == "joined" || name == "another's end" || name == "all of them" {
			continue // an end is the last of a thread
		}
		for behind := 1; behind <= len(calls); behind++ {
			w := New()
			for _, c := range calls[:behind] {
				run(w, c)
			}
			run(w, call{"write", 1, 5, 0})
			for _, c := range calls[behind:] {
				run(w, c)
			}
			if got := run(w, call{"read", 2, 5, 0}); got != "true" {
				t.Errorf("P17.2: %s, the write behind call %d: %s", name, behind, got)
			}
		}
	}
}

// All earlier ones count, not the last one alone.
func TestEarlierOnes(t *testing.T) {
	hold(t, "P17.2", []told{
		{"the first of two writes isn't known", []call{{"write", 1, 5, 0}, {"write", 2, 5, 0}, {"release", 2, 9, 0}, {"acquire", 3, 9, 0}, {"read", 3, 5, 0}}, "ft..t", 2},
		{"both writes are", []call{{"write", 1, 5, 0}, {"release", 1, 9, 0}, {"write", 2, 5, 0}, {"release", 2, 9, 0}, {"acquire", 3, 9, 0}, {"read", 3, 5, 0}}, "f.t..f", 1},
		{"the first of two reads isn't known", []call{{"read", 1, 5, 0}, {"read", 2, 5, 0}, {"release", 2, 9, 0}, {"acquire", 3, 9, 0}, {"write", 3, 5, 0}}, "ff..t", 1},
		{"the second of two reads isn't known", []call{{"read", 1, 5, 0}, {"release", 1, 9, 0}, {"read", 2, 5, 0}, {"acquire", 3, 9, 0}, {"write", 3, 5, 0}}, "f.f.t", 1},
		{"both reads are", []call{{"read", 1, 5, 0}, {"release", 1, 9, 0}, {"read", 2, 5, 0}, {"release", 2, 9, 0}, {"acquire", 3, 9, 0}, {"write", 3, 5, 0}}, "f.f..f", 0},
		{"a write behind which its thread read", []call{{"write", 1, 5, 0}, {"read", 1, 5, 0}, {"read", 2, 5, 0}}, "fft", 1},
		{"a read behind which its thread wrote", []call{{"read", 1, 5, 0}, {"release", 1, 9, 0}, {"write", 1, 5, 0}, {"acquire", 2, 9, 0}, {"read", 2, 5, 0}, {"write", 2, 5, 0}}, "f.f.tt", 2},
		{"a write is known, a later read isn't", []call{{"write", 1, 5, 0}, {"release", 1, 9, 0}, {"read", 1, 5, 0}, {"acquire", 2, 9, 0}, {"read", 2, 5, 0}, {"write", 2, 5, 0}}, "f.f.ft", 1},
		{"a write is known, a later one isn't", []call{{"write", 1, 5, 0}, {"release", 1, 9, 0}, {"write", 1, 5, 0}, {"acquire", 2, 9, 0}, {"read", 2, 5, 0}}, "f.f.t", 1},
		{"known too late", []call{{"write", 1, 5, 0}, {"read", 2, 5, 0}, {"release", 1, 9, 0}, {"acquire", 2, 9, 0}, {"read", 2, 5, 0}, {"write", 2, 5, 0}}, "ft..ff", 1},
		{"a lock between, and one's own", []call{{"write", 1, 5, 0}, {"release", 1, 9, 0}, {"acquire", 2, 9, 0}, {"write", 2, 5, 0}, {"release", 2, 9, 0}, {"acquire", 1, 9, 0}, {"write", 1, 5, 0}, {"read", 1, 5, 0}}, "f..f..ff", 0},
	})
}

// Each call that is a race counts once, however many it is a race with; calls that are none don't.
func TestRacesAreCounted(t *testing.T) {
	w := New()
	if w.Races() != 0 {
		t.Errorf("P17.2: at first: %d", w.Races())
	}
	for id := 1; id <= 5; id++ {
		w.Read(id, 5, 0, false)
		w.Write(id, 5, 1, false)
	}
	if w.Races() != 4 {
		t.Errorf("P17.2: %d", w.Races())
	}
	for _, c := range []call{{"write", 6, 5, 0}, {"write", 6, 5, 0}, {"read", 7, 5, 0}, {"read", 7, 5, 0}, {"read", 7, 5, 2}, {"vwrite", 7, 5, 3}, {"vwrite", 8, 5, 3}, {"vread", 9, 5, 3}, {"write", 0, 5, 0}, {"read", 13, 5, 0}} {
		run(w, c)
	}
	if w.Races() != 8 || w.Races() != 8 {
		t.Errorf("P17.2: %d", w.Races())
	}
}

func TestTouchOfEachByEach(t *testing.T) {
	kinds := []string{"read", "write"}
	for one := 1; one <= api.MaxThreads; one++ {
		for other := 1; other <= api.MaxThreads; other++ {
			for _, first := range kinds {
				for _, second := range kinds {
					w := after(call{first, one, 5, 3})
					want := "false"
					if one != other && (first == "write" || second == "write") {
						want = "true"
					}
					// A plain word's clocks are kept; nobody learns of them.
					stays(t, after(), "P17.2", call{first, one, 5, 3}, "false")
					if got := run(w, call{second, other, 5, 3}); got != want {
						t.Errorf("P17.2: a %s by %d, a %s by %d: %s", first, one, second, other, got)
					}
				}
			}
		}
	}
}

// A race, or none, leaves all clocks as they were.
func TestPlainOnesTeachNothing(t *testing.T) {
	w := New()
	want := first(t)
	want = want[:len(want)-1]
	for id := 1; id <= api.MaxThreads; id++ {
		w.Write(id, 5, 0, false)
		w.Read(id, 5, 0, false)
		if got := text(w); got[:len(want)] != want {
			t.Fatalf("P17.2: %d: %s", id, got)
		}
	}
	if w.Races() != 22 {
		t.Errorf("P17.2: %d", w.Races())
	}
}

func TestTouchByNone(t *testing.T) {
	for _, wrong := range none() {
		w := busy()
		for _, at := range append(rights(), 5, 6) {
			for _, i := range []int{0, 1, 2, 99, -1} {
				for _, name := range []string{"read", "write", "vread", "vwrite"} {
					stays(t, w, "P17.2", call{name, wrong, at, i}, "false")
				}
			}
		}
		// Nor is it a race with what comes later.
		w = after(call{"write", wrong, 5, 0}, call{"read", wrong, 5, 0})
		stays(t, w, "P17.2", call{"write", 1, 5, 0}, "false")
		stays(t, w, "P17.2", call{"read", 1, 5, 0}, "false")
	}
}

// No two words are one, whatever their objects' and their own numbers are.
func TestWordsOfWhateverObject(t *testing.T) {
	for _, word := range words() {
		wrote := after(call{"write", 1, word[0], word[1]})
		was := after(call{"read", 1, word[0], word[1]})
		for _, other := range words() {
			if got := wrote.Read(2, other[0], other[1], false); got != (other == word) {
				t.Fatalf("P17.2: written %v, read %v: %t", word, other, got)
			}
			if got := was.Write(2, other[0], other[1], false); got != (other == word) {
				t.Fatalf("P17.2: read %v, written %v: %t", word, other, got)
			}
		}
		if wrote.Races() != 1 || was.Races() != 1 {
			t.Fatalf("P17.2: %v: %d, %d", word, wrote.Races(), was.Races())
		}
	}
}

func TestVolatileOnesAreNoRaces(t *testing.T) {
	names := []string{"vread", "vwrite", "read", "write"}
	for _, one := range names {
		for _, other := range names {
			for id := 1; id <= 3; id++ {
				if one[0] != 'v' && other[0] != 'v' {
					continue // two plain ones
				}
				w := after(call{one, 1, 5, 0})
				if got := run(w, call{other, id, 5, 0}); got != "false" || w.Races() != 0 {
					t.Errorf("P17.2: a %s by 1, a %s by %d: %s, %d", one, other, id, got, w.Races())
				}
			}
		}
	}
}

// Plain and volatile ones of one word don't meet: a plain one hands on nothing, and a volatile one is of no race with it.
func TestPlainAndVolatileDontMeet(t *testing.T) {
	hold(t, "P17.2", []told{
		{"a plain write and a volatile read", []call{{"write", 1, 5, 0}, {"vread", 2, 5, 0}, {"read", 2, 5, 0}}, "fft", 1},
		{"a volatile write and a plain read", []call{{"write", 1, 5, 1}, {"vwrite", 1, 5, 0}, {"read", 2, 5, 0}, {"read", 2, 5, 1}}, "ffft", 1},
		{"volatile ones order plain ones of the word", []call{{"write", 1, 5, 0}, {"vwrite", 1, 5, 0}, {"vread", 2, 5, 0}, {"write", 2, 5, 0}}, "ffff", 0},
	})
}

// The whole clock is held against the whole clock: what its thread had learned by then too, if it goes on behind its end.
func TestWholeClocksAreHeld(t *testing.T) {
	hold(t, "P17.2", []told{
		{"behind its end it learned something", []call{{"end", 1, 0, 0}, {"release", 2, 9, 0}, {"acquire", 1, 9, 0}, {"write", 1, 5, 0}, {"joined", 3, 1, 0}, {"read", 3, 5, 0}}, "...f.t", 1},
		{"and the other one too", []call{{"end", 1, 0, 0}, {"release", 2, 9, 0}, {"acquire", 1, 9, 0}, {"write", 1, 5, 0}, {"joined", 3, 1, 0}, {"acquire", 3, 9, 0}, {"read", 3, 5, 0}}, "...f..f", 0},
		{"behind its end it learned nothing", []call{{"end", 1, 0, 0}, {"write", 1, 5, 0}, {"joined", 3, 1, 0}, {"read", 3, 5, 0}}, ".f.f", 0},
		{"behind its end it began another one", []call{{"end", 1, 0, 0}, {"begin", 2, 1, 0}, {"write", 1, 5, 0}, {"joined", 3, 1, 0}, {"read", 3, 5, 0}}, "..f.t", 1},
	})
}
