package vm

import (
	"bytes"
	"fmt"
	"slices"
	"testing"

	"loom/api"
)

// overwrite: all of a list, its spare room too, and what is put behind it.
func overwrite[T any](list []T, by T) {
	_ = append(list, by, by, by)
	list = list[:cap(list)]
	for at := range list {
		list[at] = by
	}
}

// spoil overwrites all that hangs on classes.
func spoil(l []api.Class) {
	for _, c := range l {
		for _, m := range c.Methods {
			overwrite(m.Params, api.Type{Kind: 99})
			overwrite(m.Code, api.Ins{Op: 98})
			overwrite(m.Handlers, api.Handler{Class: 97})
		}
		overwrite(c.Pool, api.Const{Kind: 96})
		overwrite(c.Fields, api.Field{Name: "spoilt"})
		overwrite(c.Methods, api.Method{Name: "spoilt"})
	}
	overwrite(l, api.Class{Name: "Spoilt"})
}

// withRoom: a copy of a list with spare room, which is filled.
func withRoom[T any](list []T, by T) []T {
	list = append(slices.Clone(list), by, by, by)
	return list[:len(list)-3]
}

// roomOf: what is in the spare room behind a list.
func roomOf[T any](list []T) string { return fmt.Sprintf("%+v", list[len(list):cap(list)]) }

// spacious: classes with spare room behind all that hangs on them.
func spacious(l []api.Class) []api.Class {
	l = withRoom(l, api.Class{Name: "Behind"})
	for n := range l {
		c := &l[n]
		c.Pool = withRoom(c.Pool, api.Const{Kind: 96})
		c.Fields = withRoom(c.Fields, api.Field{Name: "behind"})
		c.Methods = withRoom(c.Methods, api.Method{Name: "behind"})
		for k := range c.Methods {
			m := &c.Methods[k]
			m.Params = withRoom(m.Params, api.Type{Kind: 95})
			m.Code = withRoom(m.Code, api.Ins{Op: 94})
			m.Handlers = withRoom(m.Handlers, api.Handler{Class: 93})
		}
	}
	return l
}

// classText: all of classes, and what is behind it.
func classText(l []api.Class) string {
	text := fmt.Sprintf("%+v", l) + roomOf(l)
	for _, c := range l {
		text += roomOf(c.Pool) + roomOf(c.Fields) + roomOf(c.Methods)
		for _, m := range c.Methods {
			text += roomOf(m.Params) + roomOf(m.Code) + roomOf(m.Handlers)
		}
	}
	return text
}

// turn: n picks of many kinds.
func turn(v *VM, from, n int) {
	for k := from; k < from+n; k++ {
		v.Pick(k * k)
	}
}

func TestClassesAreNeitherChangedNorKept(t *testing.T) {
	l := spacious(classesOf(t, busy))
	before := classText(l)
	v, err := Of(l, 300)
	is(t, "P16.1: Of", err, api.OK)
	turn(v, 0, 60)
	is(t, "P16.1: classes aren't changed", classText(l), before)
	other := begun(t, 300, busy)
	turn(other, 0, 60)
	spoil(l)
	for n := range 400 {
		turn(v, 60+n, 1)
		turn(other, 60+n, 1)
		is(t, "P16.1: classes aren't kept", all(v), all(other))
	}
	is(t, "it came to its end", v.Machine().Over(), true)
}

func TestFilesAreNeitherChangedNorKept(t *testing.T) {
	files := filesOf(t, classesOf(t, busy))
	for n := range files {
		files[n] = withRoom(files[n], 0xee)
	}
	files = withRoom(files, []byte("behind"))
	before := fmt.Sprint(files)
	behind := roomOf(files)
	rooms := ""
	for _, file := range files {
		rooms += roomOf(file)
	}
	v, err := New(files, 300)
	is(t, "P16.1: New", err, api.OK)
	turn(v, 0, 60)
	is(t, "P16.1: files aren't changed", fmt.Sprint(files), before)
	is(t, "P16.1: nor what is behind them", roomOf(files), behind)
	for _, file := range files {
		is(t, "P16.1: nor what is behind one", rooms[:len(roomOf(file))], roomOf(file))
		rooms = rooms[len(roomOf(file)):]
		overwrite(file, 0xdd)
	}
	overwrite(files, bytes.Repeat([]byte{1}, 9))
	other := begun(t, 300, busy)
	turn(other, 0, 60)
	for n := range 400 {
		turn(v, 60+n, 1)
		turn(other, 60+n, 1)
		is(t, "P16.1: files aren't kept", all(v), all(other))
	}
}

// Refused ones, too, are as they were.
func TestWhatIsRefusedIsNotChanged(t *testing.T) {
	for _, text := range []string{"Main\nMain.main() void: enter 0; ret", "Main < A\nMain.main() void: ret", "Main\nMain.f(int) void: x: load 1; pop; y: ret; catch x y y 0"} {
		l := spacious(classesOf(t, text))
		before := classText(l)
		_, err := Of(l, 100)
		is(t, "P16.1: it is refused", err != api.OK, true)
		is(t, "P16.1: classes aren't changed", classText(l), before)
	}
	files := filesOf(t, classesOf(t, small))
	files[1] = withRoom(files[1][:len(files[1])-1], 0xee)
	before := fmt.Sprint(files) + roomOf(files[1])
	_, err := New(files, 100)
	is(t, "P16.1: it is refused", err != api.OK, true)
	is(t, "P16.1: files aren't changed", fmt.Sprint(files)+roomOf(files[1]), before)
}

func TestPicksAreNeitherChangedNorKept(t *testing.T) {
	picks := withRoom([]int{0, -7, 5, 1 << 40, 3, -1, 12, 8}, 77)
	before := fmt.Sprint(picks) + roomOf(picks)
	v, other := roomy(t, busy), roomy(t, busy)
	is(t, "P16.1: Run", v.Run(picks), len(picks))
	is(t, "P16.1: picks aren't changed", fmt.Sprint(picks)+roomOf(picks), before)
	other.Run([]int{0, -7, 5, 1 << 40, 3, -1, 12, 8})
	overwrite(picks, 4)
	is(t, "P16.1: picks aren't kept", all(v), all(other))
	turn(v, 0, 50)
	turn(other, 0, 50)
	is(t, "P16.1: picks aren't kept", all(v), all(other))
	// Behind the end, too.
	finish(t, v)
	before = fmt.Sprint(picks) + roomOf(picks)
	v.Run(picks)
	is(t, "P16.1: picks aren't changed", fmt.Sprint(picks)+roomOf(picks), before)
}

// What is answered may be overwritten at each pick: the machine does what one does of which nothing was asked.
func TestAnswersAreNewMemory(t *testing.T) {
	v, other := roomy(t, busy), roomy(t, busy)
	kept := [][]api.Event{}
	told := []string{}
	for n := 0; ; n++ {
		kept = append(kept, v.Events(), v.Seen(1), v.Seen(2))
		for id := range 4 {
			overwrite(v.Events(), api.Event{Kind: api.EOut, Int: 99})
			overwrite(v.Seen(id), api.Event{Kind: api.EOut, Int: 98})
		}
		is(t, "P16.1: answers are nobody else's", all(v), all(other))
		told = append(told, events(kept[3*n])+"|"+events(kept[3*n+1])+"|"+events(kept[3*n+2]))
		one, two := v.Pick(n*7), other.Pick(n*7)
		is(t, "P16.1: the same picks", one, two)
		if !one {
			break
		}
	}
	for n, want := range told {
		is(t, "P16.1: answers stay", events(kept[3*n])+"|"+events(kept[3*n+1])+"|"+events(kept[3*n+2]), want)
	}
	is(t, "there was enough to see", len(v.Events()) > 10, true)
}

// Machines of the same classes are nothing to one another.
func TestMachinesOfTheSameClasses(t *testing.T) {
	l := classesOf(t, busy)
	one, _ := Of(l, 300)
	fresh := all(one)
	other, _ := Of(l, 300)
	finish(t, other)
	is(t, "P16.1: another machine's picks", all(one), fresh)
	third, _ := Of(l, 300)
	is(t, "P16.1: one that is made later", all(third), fresh)
	finish(t, third)
	is(t, "P16.1: the same picks", all(third), all(other))
	is(t, "P16.1: another machine's picks", all(one), fresh)
}
