package vm

import (
	"fmt"
	"math"
	"math/rand"
	"slices"
	"strings"
	"testing"

	"loom/api"
	"loom/class"
	"loom/interp"
	"loom/link"
	"loom/locks"
)

// small: two classes, of which Main stands last.
const small = "A: n int\nA.f() int: load 0; getfield A.n; pushint 3; add; retval\nMain\nMain.main() void: new A; call A.f; out; ret"

// refused: New answers that error, and no machine, whatever arena is asked for.
func refused(t *testing.T, what string, files [][]byte, want api.Errno) {
	t.Helper()
	for _, words := range []int{math.MinInt, 0, 100, math.MaxInt} {
		if v, err := New(files, words); v != nil || err != want {
			t.Errorf("P16.1: New of %s: %v, %d, not %d", what, v, err, want)
		}
	}
}

func TestNewTellsWhatDecodeTells(t *testing.T) {
	good := filesOf(t, classesOf(t, small))
	offName := slices.Clone(good[0])
	offName[6] = '1'
	for what, file := range map[string][]byte{
		"nothing":       {},
		"nil":           nil,
		"another mark":  append([]byte("LOOP"), good[0][4:]...),
		"a short file":  good[0][:len(good[0])-1],
		"a long file":   append(slices.Clone(good[0]), 0),
		"a great file":  make([]byte, api.MaxFile+1),
		"all that fits": make([]byte, api.MaxFile),
		"no name":       offName,
	} {
		_, want := class.Decode(file)
		if want == api.OK {
			t.Fatalf("%s is a class file", what)
		}
		refused(t, what, [][]byte{file}, want)
		refused(t, what+", the first one", [][]byte{file, good[0], good[1]}, want)
		refused(t, what+", in the middle", [][]byte{good[0], file, good[1]}, want)
		refused(t, what+", the last one", [][]byte{good[0], good[1], file}, want)
	}
}

// Errors of three kinds: whichever stands first is told.
func TestTheFirstFilesErrorIsTold(t *testing.T) {
	good := filesOf(t, classesOf(t, small))
	bad := [][]byte{make([]byte, api.MaxFile+1), append([]byte("LOOP"), good[0][4:]...), good[0][:3]}
	told := map[api.Errno]bool{}
	for n := range bad {
		_, want := class.Decode(bad[n])
		told[want] = true
		for other := range bad {
			refused(t, fmt.Sprint("bad files ", n, other), [][]byte{good[0], bad[n], bad[other]}, want)
			refused(t, fmt.Sprint("bad files ", n, other), [][]byte{bad[n], good[1], bad[other], good[0]}, want)
		}
	}
	is(t, "the bad files have errors of their own", len(told), len(bad))
}

// What Decode has to say comes ahead of what link and locks have.
func TestDecodesErrorComesFirst(t *testing.T) {
	short := []byte("LOOM")
	_, want := class.Decode(short)
	for _, text := range []string{"Main < Nobody", "Main\nMain.main() void: add; ret", "Main\nMain.main() void: enter 0; ret"} {
		l := classesOf(t, text)
		_, other := Of(l, 100)
		is(t, "Of tells another error", other != api.OK && other != want, true)
		refused(t, "a bad file behind a bad program", append(filesOf(t, l), short), want)
	}
	// More classes than there may be are an error of link's, not of a count of files.
	var many [][]byte
	for n := range api.MaxClasses + 1 {
		many = append(many, filesOf(t, []api.Class{{Name: fmt.Sprint("C", n)}})...)
	}
	refused(t, "too many files", many, api.ErrBig)
	refused(t, "too many files, the last one bad", append(many, short), want)
	refused(t, "as many as may be", many[1:], api.ErrMain)
}

func TestNewOfNone(t *testing.T) {
	refused(t, "nil", nil, api.ErrMain)
	refused(t, "none", [][]byte{}, api.ErrMain)
	for _, l := range [][]api.Class{nil, {}} {
		if v, err := Of(l, 100); v != nil || err != api.ErrMain {
			t.Errorf("P16.1: Of none: %v, %d", v, err)
		}
	}
}

// The classes are in the files' order: their numbers tell.
func TestNewOfSeveral(t *testing.T) {
	const text = "C < B\nB: n int\nA\nMain < A\nMain.main() void: new A; pop; new B; pop; new C; pop; new B; getfield B.n; out; ret"
	l := classesOf(t, text)
	for _, order := range [][]int{{0, 1, 2, 3}, {3, 2, 1, 0}, {2, 0, 3, 1}} {
		var some []api.Class
		for _, n := range order {
			some = append(some, l[n])
		}
		v, err := New(filesOf(t, some), 60)
		if err != api.OK {
			t.Fatalf("P16.1: New: %d", err)
		}
		other, _ := Of(some, 60)
		is(t, "P16.1: New is Of", all(v), all(other))
		for v.Pick(0) {
			other.Pick(0)
			is(t, "P16.1: New is Of", all(v), all(other))
		}
		is(t, "P16.1: events", events(v.Events()), "1 out 0; 1 end")
		for at, word := range strings.Fields("Main A B C B") {
			address := v.Machine().Heap().All()[at]
			number, _ := v.Machine().Heap().Class(address)
			is(t, "P16.1: whose object it is", v.Machine().Class(address), word)
			is(t, "P16.1: its number", number, 2+slices.IndexFunc(some, func(c api.Class) bool { return c.Name == word }))
		}
	}
	full := []api.Class{l[0], l[1], l[2], l[3]}
	for n := len(full); n < api.MaxClasses; n++ {
		full = append(full, api.Class{Name: fmt.Sprint("C", n)})
	}
	v, err := New(filesOf(t, full), 60)
	is(t, "P16.1: as many as may be", err, api.OK)
	is(t, "P16.1: events", events(finish(t, v).Events()), "1 out 0; 1 end")
}

func TestOfRefuses(t *testing.T) {
	const none = "Main\nMain.main() void: ret\n"
	for _, c := range []struct {
		text string
		want api.Errno
	}{
		// class.Check, then types, then link: of link.
		{"Main\nMain.main() void: nop", api.ErrTail},
		{none + "A-", api.ErrName},
		{none + "A\nA", api.ErrTwice},
		{none + "A < B", api.ErrNoClass},
		{none + "A < B\nB < A", api.ErrCircle},
		{none + "A: n int\nB < A: n int", api.ErrTwice},
		{none + "A\nA.f() int: pushint 1; retval\nB < A\nB.f() void: ret", api.ErrTable},
		{"Main\nMain.main() void: new Nobody; pop; ret", api.ErrNoClass},
		{"Main\nMain.main() void: load 0; call Main.nothing; ret", api.ErrMember},
		{"A\nA.main() void: ret", api.ErrMain},
		{"Main\nMain.main(int) void: ret", api.ErrMain},
		// Of verify.
		{"Main\nMain.main() void: add; ret", api.ErrStack},
		{"Main\nMain.main() void: load 3; pop; ret", api.ErrUnset},
		{"Main\nMain.main() void: pushint 1; outc; ret", api.ErrType},
		// Of locks.
		{"Main\nMain.main() void: enter 0; ret", api.ErrLock},
		{none + "A\nA.f() void: exit 0; ret", api.ErrLock},
		// Whatever link says comes first.
		{"Main\nMain.main() void: enter 0; ret\nA < B", api.ErrNoClass},
		{"Main\nMain.f() void: add; ret", api.ErrMain},
		// Of two that may not run, the first method's: not all of verify's ahead of all of locks'.
		{"Main\nMain.main() void: enter 0; ret\nMain.f() void: add; ret", api.ErrLock},
		{"Main\nMain.main() void: add; ret\nMain.f() void: enter 0; ret", api.ErrStack},
		{"A\nA.f() void: exit 0; ret\nMain\nMain.main() void: load 3; pop; ret", api.ErrLock},
		{"A\nA.f() int: ret\nMain\nMain.main() void: enter 0; ret", api.ErrType},
		// Of one method, verify's.
		{"Main\nMain.main() void: enter 0; add; ret", api.ErrStack},
	} {
		l := classesOf(t, c.text)
		for _, words := range []int{math.MinInt, -1, 0, 3, 100, math.MaxInt} {
			if v, err := Of(l, words); v != nil || err != c.want {
				t.Errorf("P16.1: Of %s: %v, %d, not %d", c.text, v, err, c.want)
			}
		}
		if slices.Contains([]api.Errno{api.ErrTail, api.ErrName}, c.want) {
			continue // There is no file of it.
		}
		refused(t, c.text, filesOf(t, l), c.want)
	}
}

func TestArenas(t *testing.T) {
	for words, want := range map[int]int{4: 4, 77: 77, 2048: 2048, 2049: 2048, math.MaxInt: 2048} {
		v := begun(t, words, "Main: k cplx\nMain.main() void: ret")
		is(t, "P16.1: the arena's words", v.Machine().Heap().Size(), want)
		is(t, "P16.1: the first thread is ready", v.Machine().Ready(), []int{1})
		is(t, "P16.1: nothing has come", events(v.Events()), "")
		is(t, "P16.1: it ends", events(finish(t, v).Events()), "1 end")
	}
}

func TestOutOfMemoryAtOnce(t *testing.T) {
	const text = "Main: k cplx\nMain.main() void: ret"
	for _, words := range []int{math.MinInt, -1, 0, 1, 2, 3} {
		v := begun(t, words, text)
		other, err := New(filesOf(t, classesOf(t, text)), words)
		is(t, "P16.1: New is Of", fmt.Sprint(err, all(other)), fmt.Sprint(api.OK, all(v)))
		before := all(v)
		is(t, "P16.1: events", events(v.Events()), "1 memory")
		is(t, "P16.1: those of the thread", events(v.Seen(1)), "1 memory")
		is(t, "P16.1: it is over", v.Machine().Over(), true)
		is(t, "P16.1: Pick, Run, Drain", fmt.Sprint(v.Pick(0), v.Run([]int{0, 1, 2}), Drain(v, 5)), "false 0 0")
		is(t, "P16.1: nothing changes", all(v), before)
	}
}

// Nothing goes through buffers: what is written can be read at once, by others too.
func TestNotWeak(t *testing.T) {
	v := roomy(t, "D: n int\nD.reads() void: load 0; getfield D.n; out; ret\nMain\nMain.main() void: new D; store 1; load 1; spawn D.reads; pop; load 1; pushint 5; putfield D.n; ret")
	pick(t, v, 0, 0, 0, 0, 0, 0, 0, 0)
	is(t, "P16.1: no buffer", fmt.Sprint(v.Machine().Buffer(1), v.Machine().Flush(1)), "0 false")
	pick(t, v, 1, 1, 1)
	is(t, "P16.1: what the other one reads", events(v.Events()), "2 out 5")
}

// asked: what New is to tell, found from the layers one by one.
func asked(files [][]byte) api.Errno {
	var l []api.Class
	for _, file := range files {
		c, err := class.Decode(file)
		if err != api.OK {
			return err
		}
		l = append(l, c)
	}
	p, err := link.Link(l)
	if err != api.OK {
		return err
	}
	if err := locks.All(p); err != api.OK {
		return err
	}
	_, err = interp.New(p, 40, false)
	return err
}

// Bytes of which some are others than they were: an error, or a machine that comes to whatever end.
func TestWhateverBytes(t *testing.T) {
	draw := rand.New(rand.NewSource(16))
	good := filesOf(t, classesOf(t, busy))
	ran := 0
	for range 3000 {
		files := make([][]byte, len(good))
		for n := range good {
			files[n] = slices.Clone(good[n])
		}
		for range 1 + draw.Intn(2) {
			file := files[draw.Intn(len(files))]
			file[draw.Intn(len(file))] = byte(draw.Intn(256) >> draw.Intn(8))
		}
		v, err := New(files, 40)
		is(t, "P16.1: New", err, asked(files))
		if err != api.OK {
			is(t, "P16.1: no machine", v == nil, true)
			continue
		}
		ran++
		Drain(v, 300)
		for range 300 {
			v.Pick(draw.Int() - math.MaxInt/2)
		}
	}
	if ran < 20 {
		t.Errorf("%d of them ran", ran)
	}
}
