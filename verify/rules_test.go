package verify

import (
	"math/rand"
	"slices"
	"strings"
	"testing"

	"loom/api"
)

const everyType = "int cplx arr null Object Fault A B C D E Main"

// below: which classes are of one, or below it.
func below(class string) []string {
	switch class {
	case "Object":
		return strings.Fields("Object Fault A B C D E Main")
	case "Fault":
		return strings.Fields("Fault E")
	case "A":
		return strings.Fields("A B C D")
	case "B":
		return strings.Fields("B D")
	}
	return []string{class}
}

// takesIt: whether a place that asks for want takes a value of type have. Beside types: any; ref (an object, an array, null).
func takesIt(want, have string) bool {
	isClass := slices.Contains(below("Object"), have)
	switch want {
	case "any":
		return true
	case "int", "cplx":
		return have == want
	case "arr":
		return have == "arr" || have == "null"
	case "ref":
		return have == "arr" || have == "null" || isClass
	}
	return have == "null" || isClass && slices.Contains(below(want), have)
}

// row of the chapter's table.
type row struct{ code, takes, puts string }

func rows() []row {
	list := []row{
		{"nop", "", ""}, {"yield", "", ""}, {"goto next", "", ""},
		{"pushint 7", "", "int"}, {"pushcplx 7i", "", "cplx"}, {"null", "", "null"},
		{"pop", "any", ""},
		{"neg", "int", "int"},
		{"cadd", "cplx cplx", "cplx"}, {"csub", "cplx cplx", "cplx"}, {"cmul", "cplx cplx", "cplx"}, {"cconj", "cplx", "cplx"}, {"csame", "cplx cplx", "int"},
		{"rsame", "ref ref", "int"},
		{"ifzero next", "int", ""}, {"ifone next", "int", ""},
		{"getfield A.n", "A", "int"}, {"getfield A.o", "A", "A"}, {"getfield A.z", "A", "cplx"}, {"getfield A.l", "A", "arr"},
		{"getfield B.n", "B", "int"}, {"getfield D.o", "D", "A"}, {"getfield B.b", "B", "B"}, {"getfield D.b", "D", "B"}, {"getfield Fault.code", "Fault", "int"}, {"getfield E.code", "E", "int"},
		{"putfield A.n", "A int", ""}, {"putfield A.o", "A A", ""}, {"putfield A.z", "A cplx", ""}, {"putfield A.l", "A arr", ""},
		{"putfield B.n", "B int", ""}, {"putfield D.o", "D A", ""}, {"putfield B.b", "B B", ""}, {"putfield D.b", "D B", ""}, {"putfield Fault.code", "Fault int", ""}, {"putfield E.code", "E int", ""},
		{"newarr", "int", "arr"}, {"arrlen", "arr", "int"}, {"arrget", "arr int", "int"}, {"arrput", "arr int int", ""},
		{"call A.add()", "A int int", "int"}, {"call C.add()", "C int int", "int"}, {"call A.run()", "A", ""}, {"call B.run()", "B", ""}, {"call D.run()", "D", ""},
		{"call A.mix()", "A int cplx arr B", "C"}, {"call D.mix()", "D int cplx arr B", "C"}, {"call A.say()", "A", "int"}, {"call A.give()", "A int", ""}, {"call B.own()", "B", "D"}, {"call D.own()", "D", "D"},
		{"wait", "Object", ""}, {"notify", "Object", ""}, {"notifyall", "Object", ""},
		{"spawn A.run()", "A", "int"}, {"spawn B.run()", "B", "int"}, {"spawn D.run()", "D", "int"}, {"spawn C.run()", "C", "int"},
		{"join", "int", ""}, {"out", "int", ""}, {"outc", "cplx", ""},
	}
	for _, op := range strings.Fields("add sub mul div rem less same") {
		list = append(list, row{op, "int int", "int"})
	}
	for _, class := range below("Object") {
		list = append(list, row{"new " + class, "", class}, row{"cast " + class, "Object", class}, row{"is " + class, "Object", "int"})
	}
	return list
}

// push: code that puts values of these types, never higher than they stand.
func push(words []string) string {
	text := ""
	for _, word := range words {
		switch word {
		case "int":
			text += "pushint 7;"
		case "cplx":
			text += "pushcplx 7i;"
		case "arr":
			text += "pushint 7; newarr;"
		case "null":
			text += "null;"
		default:
			text += "new " + word + ";"
		}
	}
	return text
}

// with: a method that has values of those types on its stack, under them one that nobody takes, and then runs the row.
func (r row) with(words []string) body {
	return body{params: "int B", locals: 2, stack: 9, code: "null; store 3; pushcplx 7i;" + push(words) + r.code + "; next: nop; ret"}
}

// expect: the row with values of those types on the stack.
func (r row) expect(t *testing.T, words []string) {
	t.Helper()
	takes := strings.Fields(r.takes)
	fits := true
	for at, want := range takes {
		fits = fits && takesIt(want, words[at])
	}
	b := r.with(words)
	states, err := b.ask(t)
	if (err == api.OK) != fits {
		t.Errorf("P8.2: %s of %v: %d", r.code, words, err)
	}
	if err != api.OK {
		return
	}
	want := strings.TrimSpace("Main int B null - | cplx " + r.puts)
	if got := tell(states[len(states)-2]); got != want {
		t.Errorf("P8.2: behind %s of %v: %s, not %s", r.code, words, got, want)
	}
	want = strings.TrimSpace("Main int B null - | cplx " + strings.Join(words, " "))
	if got := tell(states[len(states)-3]); got != want {
		t.Errorf("P8.1: at %s of %v: %s, not %s", r.code, words, got, want)
	}
}

// fitting: for each place a type that fits it.
func fitting(takes string) []string {
	words := strings.Fields(takes)
	for at, word := range words {
		if word == "any" || word == "ref" {
			words[at] = "arr"
		}
	}
	return words
}

func TestRowsTakeWhatTheyAskFor(t *testing.T) {
	for _, r := range rows() {
		r.expect(t, fitting(r.takes))
	}
}

func TestRowsWithAnotherTypeInOnePlace(t *testing.T) {
	for _, r := range rows() {
		for place := range strings.Fields(r.takes) {
			for _, word := range strings.Fields(everyType) {
				words := fitting(r.takes)
				words[place] = word
				r.expect(t, words)
			}
		}
	}
}

func TestRowsWithAllTypesInTwoPlaces(t *testing.T) {
	for _, r := range rows() {
		if len(strings.Fields(r.takes)) != 2 {
			continue
		}
		for _, one := range strings.Fields(everyType) {
			for _, other := range strings.Fields(everyType) {
				r.expect(t, []string{one, other})
			}
		}
	}
}

func TestRowsWithAnyTypes(t *testing.T) {
	random := rand.New(rand.NewSource(1))
	all := strings.Fields(everyType)
	for range 40 {
		for _, r := range rows() {
			var words []string
			for range strings.Fields(r.takes) {
				words = append(words, all[random.Intn(len(all))])
			}
			r.expect(t, words)
		}
	}
}

func TestRowsWithOneTooFew(t *testing.T) {
	for _, r := range rows() {
		words := fitting(r.takes)
		for count := range words {
			// The top ones are there, and the lower ones.
			for _, some := range [][]string{words[:count], words[len(words)-count:]} {
				b := body{stack: 9, code: push(some) + r.code + "; next: nop; ret"}
				if _, err := b.ask(t); err == api.OK {
					t.Errorf("P8.2: %s of %v is accepted", r.code, some)
				}
			}
		}
		body{stack: 9, code: push(words) + r.code + "; next: nop; ret"}.accepted(t)
	}
}

// The chapter's example.
func TestAddOfOne(t *testing.T) {
	if _, err := (body{stack: 2, code: "pushint 7; add; ret"}).ask(t); err != api.ErrStack {
		t.Errorf("P8.2: %d", err)
	}
}

func TestRowsOnAStackJustHighEnough(t *testing.T) {
	for _, r := range rows() {
		words := fitting(r.takes)
		before, behind := len(words), len(strings.Fields(r.puts))
		b := body{stack: max(before, behind), code: push(words) + r.code + "; next: nop; ret"}
		b.accepted(t)
		if b.stack > 0 {
			b.stack--
			b.refused(t)
		}
	}
}

func TestDup(t *testing.T) {
	for _, word := range strings.Fields(everyType) {
		b := body{stack: 4, code: push([]string{"cplx", "arr", word}) + "dup; nop; ret"}
		states := b.accepted(t)
		if got := tell(states[len(states)-2]); got != "Main | cplx arr "+word+" "+word {
			t.Errorf("P8.2: behind dup: %s", got)
		}
		b.stack = 3
		b.refused(t)
	}
	body{stack: 4, code: "dup; ret"}.refused(t)
}

func TestStore(t *testing.T) {
	for _, word := range strings.Fields(everyType) {
		for _, other := range strings.Fields(everyType) {
			// Over a local that isn't set, one of another type, a parameter.
			b := body{params: "int", locals: 2, stack: 3, code: "pushcplx 7i;" + push([]string{other}) + "store 2;" + push([]string{word}) + "store 2;" + push([]string{word}) + "store 1; nop; ret"}
			states := b.accepted(t)
			if got := tell(states[len(states)-2]); got != "Main "+word+" "+word+" - | cplx" {
				t.Errorf("P8.2: behind store: %s", got)
			}
		}
	}
	body{stack: 3, code: "store 0; ret"}.refused(t)
	// The receiver is a local like others.
	body{stack: 1, code: "pushint 7; store 0; load 0; ret"}.has(t, "Main |\nMain | int\nint |\nint | int")
}

func TestLoad(t *testing.T) {
	for _, word := range strings.Fields(everyType) {
		b := body{locals: 2, stack: 2, code: "pushcplx 7i;" + push([]string{word}) + "store 2; load 2; nop; ret"}
		states := b.accepted(t)
		if got := tell(states[len(states)-2]); got != "Main - "+word+" | cplx "+word {
			t.Errorf("P8.2: behind load: %s", got)
		}
		b.code = "pushcplx 7i; pushcplx 7i; pop;" + push([]string{word}) + "store 2; pushint 7; load 2; ret"
		b.refused(t)
		b.stack = 3
		b.accepted(t)
	}
	body{params: "cplx", stack: 2, code: "load 0; load 1; ret"}.has(t, "Main cplx |\nMain cplx | Main\nMain cplx | Main cplx")
	body{locals: 1, stack: 1, code: "load 1; ret"}.refused(t)
	body{params: "int", locals: 2, stack: 9, code: "pushint 7; store 2; load 3; ret"}.refused(t)
}

func TestEnterAndExit(t *testing.T) {
	for _, op := range []string{"enter", "exit"} {
		for _, word := range strings.Fields(everyType) {
			b := body{locals: 2, stack: 1, code: push([]string{word}) + "store 2;" + op + " 2; nop; ret"}
			states, err := b.ask(t)
			if (err == api.OK) != takesIt("Object", word) {
				t.Errorf("P8.2: %s of %s: %d", op, word, err)
			}
			if err == api.OK && tell(states[len(states)-2]) != "Main - "+word+" |" {
				t.Errorf("P8.2: behind %s: %s", op, tell(states[len(states)-2]))
			}
		}
		// Neither looks at the stack.
		body{code: op + " 0; ret"}.accepted(t)
		body{locals: 1, stack: 1, code: "load 0;" + op + " 1; ret"}.refused(t)
		body{params: "arr", stack: 1, code: "load 0;" + op + " 1; ret"}.refused(t)
		body{params: "D", stack: 1, code: "pushint 7;" + op + " 1; ret"}.accepted(t)
	}
}

func TestThrow(t *testing.T) {
	for _, word := range strings.Fields(everyType) {
		b := body{stack: 9, code: push([]string{"int", word}) + "throw"}
		if _, err := b.ask(t); (err == api.OK) != takesIt("Object", word) {
			t.Errorf("P8.2: throw of %s: %d", word, err)
		}
	}
	body{stack: 1, code: "throw"}.refused(t)
	// Nothing comes behind it.
	body{stack: 1, code: "null; throw; add; throw"}.has(t, "Main |\nMain | null\n.\n.")
}

func TestRet(t *testing.T) {
	for _, ret := range strings.Fields("void int cplx arr Object Fault A B C D E Main") {
		_, err := body{ret: ret, stack: 9, code: "pushint 7; ret"}.ask(t)
		if (err == api.OK) != (ret == "void") {
			t.Errorf("P8.2: ret of a method that tells %s: %d", ret, err)
		}
		for _, word := range strings.Fields(everyType) {
			_, err := body{ret: ret, stack: 9, code: push([]string{"arr", "cplx", word}) + "retval"}.ask(t)
			if (err == api.OK) != (ret != "void" && takesIt(ret, word)) {
				t.Errorf("P8.2: retval of %s of a method that tells %s: %d", word, ret, err)
			}
		}
		body{ret: ret, stack: 9, code: "retval"}.refused(t)
		if ret != "void" {
			// It isn't reached: nobody asks.
			body{ret: ret, stack: 9, code: "goto out; ret; out: null; throw"}.accepted(t)
		}
	}
	body{stack: 9, code: "ret; null; retval"}.has(t, "Main |\n.\n.")
}

func TestSpawnOfMethodsThatTakeOrTell(t *testing.T) {
	for _, b := range []body{
		{stack: 9, code: "new A; spawn A.say(); ret"},
		{stack: 9, code: "new A; spawn A.give(); ret"},
		{stack: 9, code: "new A; spawn A.add(); ret"},
		{stack: 9, code: "new A; pushint 7; spawn A.give(); ret"},
		{stack: 9, code: "new B; spawn B.own(); ret"},
		{stack: 9, code: "new D; spawn D.mix(); ret"},
		{stack: 9, code: "null; spawn D.say(); ret"},
	} {
		b.refused(t)
	}
	body{stack: 1, code: "load 0; spawn Main.main(); join; load 0; spawn Main.it(); join; ret"}.accepted(t)
}

// A method may ask for itself, with its own parameters.
func TestCallOfItself(t *testing.T) {
	b := body{params: "int B", ret: "A", stack: 3, code: "load 0; load 1; load 2; call Main.it(); retval"}
	b.has(t, "Main int B |\nMain int B | Main\nMain int B | Main int\nMain int B | Main int B\nMain int B | A")
	b.code = "load 0; load 2; load 1; call Main.it(); retval"
	b.refused(t)
}
