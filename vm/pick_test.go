package vm

import (
	"fmt"
	"math"
	"math/big"
	"testing"

	"loom/api"
)

// three: main is ready together with two others, each of which puts out twice what it is called.
const three = "A\nA.run() void: pushint 7; out; pushint 8; out; ret\nMain\n" +
	"Main.main() void: new A; spawn A.run; pop; new A; spawn A.run; pop; pushint 1; out; pushint 2; out; ret"

// busy: threads of one lock that wait, notify, join, throw, and take room.
const busy = "D: n int, v int volatile, l arr\n" +
	"D.adds() void: a: enter 0; load 0; load 0; getfield D.n; pushint 1; add; putfield D.n; load 0; getfield D.n; out; exit 0; yield; load 0; getfield D.n; pushint 9; less; ifone a; ret\n" +
	"D.waits() void: enter 0; load 0; wait; pushint 20; newarr; pop; exit 0; pushint 40; out; ret\n" +
	"D.tells() void: enter 0; load 0; notifyall; exit 0; null; throw\n" +
	"D.joins() void: pushint 2; join; pushint 50; out; x: null; throw; y: pop; ret; catch x y y 0 Fault\n" +
	"E < D\nE.tells() void: enter 0; load 0; notify; exit 0; ret\n" +
	"Main: d D\n" +
	"Main.main() void: new E; store 1; load 1; spawn D.adds; store 2; load 1; spawn D.waits; pop; load 1; spawn D.joins; pop;\n" +
	"\tnew D; spawn D.waits; pop; load 1; spawn D.adds; pop; load 1; spawn D.tells; pop; load 2; join; pushint 60; out; load 1; call D.tells; ret"

func TestOneRet(t *testing.T) {
	v := roomy(t, "Main\nMain.main() void: ret")
	is(t, "P16.1: the chapter's example", v.Run([]int{0}), 1)
	is(t, "P16.1: it is over", v.Machine().Over(), true)
	is(t, "P16.1: events", events(v.Events()), "1 end")
}

// threeReady: all three are ready.
func threeReady(t *testing.T) *VM {
	t.Helper()
	v := pick(t, roomy(t, three), 0, 0, 0, 0, 0, 0)
	is(t, "three are ready", v.Machine().Ready(), []int{1, 2, 3})
	return v
}

// stepped: which thread a pick of n has stepped.
func stepped(t *testing.T, v *VM, n int) int {
	t.Helper()
	before := v.Machine().Threads()
	pick(t, v, n)
	found := 0
	for at, x := range v.Machine().Threads() {
		if at < len(before) && fmt.Sprint(x) != fmt.Sprint(before[at]) {
			is(t, "P16.1: one thread alone is stepped", found, 0)
			found = x.Id
		}
	}
	return found
}

// numbers: small ones, on both sides of 0, and the greatest ones.
func numbers() []int {
	list := []int{math.MinInt, math.MinInt + 1, math.MinInt + 2, math.MaxInt, math.MaxInt - 1, math.MaxInt - 2, math.MinInt32, math.MaxInt32, 1 << 32, -1 << 32, math.MaxUint32}
	for n := -10; n <= 10; n++ {
		list = append(list, n)
	}
	return list
}

// place: n modulo count, from 0 on, by numbers of whatever size.
func place(n, count int) int {
	return int(new(big.Int).Mod(big.NewInt(int64(n)), big.NewInt(int64(count))).Int64())
}

func TestPickOfAnyNumber(t *testing.T) {
	for n, want := range map[int]int{0: 1, 1: 2, 2: 3, 3: 1, 4: 2, -1: 3, -2: 2, -3: 1, -4: 3, math.MaxInt: 2, math.MinInt: 2} {
		is(t, fmt.Sprintf("P16.1: Pick(%d) of three", n), stepped(t, threeReady(t), n), want)
	}
	for _, n := range numbers() {
		is(t, fmt.Sprintf("P16.1: Pick(%d) of three", n), stepped(t, threeReady(t), n), 1+place(n, 3))
		is(t, fmt.Sprintf("P16.1: Pick(%d) of one", n), stepped(t, roomy(t, three), n), 1)
		two := pick(t, roomy(t, three), 0, 0)
		is(t, fmt.Sprintf("P16.1: Pick(%d) of two", n), stepped(t, two, n), 1+place(n, 2))
	}
}

// As many as there may be.
func TestPickOfTwelve(t *testing.T) {
	text := "A\nA.run() void: yield; ret\nMain\nMain.main() void: new A; store 1; pushint 11; store 2; a: load 1; spawn A.run; pop; load 2; pushint 1; sub; dup; store 2; ifone a; yield; ret"
	for _, n := range append(numbers(), 11, 12, 13, 23, 24, -11, -12, -13, -24) {
		v := roomy(t, text)
		pick(t, v, 0, 0, 0, 0)
		for len(v.Machine().Ready()) < api.MaxThreads {
			pick(t, v, 0)
		}
		is(t, fmt.Sprintf("P16.1: Pick(%d) of twelve", n), stepped(t, v, n), 1+place(n, api.MaxThreads))
	}
}

// The place is one among those that are ready, not among all: 1 and 3 are left.
func TestPickOfThoseThatAreReady(t *testing.T) {
	for n, want := range map[int]int{0: 1, 1: 3, 2: 1, 3: 3, -1: 3, -2: 1} {
		v := pick(t, threeReady(t), 1, 1, 1, 1, 1)
		is(t, "two are ready", v.Machine().Ready(), []int{1, 3})
		is(t, fmt.Sprintf("P16.1: Pick(%d) behind the end of 2", n), stepped(t, v, n), want)
	}
	for _, n := range numbers() {
		v := pick(t, threeReady(t), 1, 1, 1, 1, 1, 0, 0, 0, 0, 0)
		is(t, "one is ready", v.Machine().Ready(), []int{3})
		is(t, fmt.Sprintf("P16.1: Pick(%d) of the third thread alone", n), stepped(t, v, n), 3)
	}
	// One that stands in line, one that waits.
	v := pick(t, roomy(t, "D\nD.f() void: enter 0; load 0; wait; exit 0; ret\nMain\nMain.main() void: new D; store 1; load 1; spawn D.f; pop; load 1; spawn D.f; pop; yield; yield; ret"), 0, 0, 0, 0, 0, 0, 0, 0, 2, 1)
	is(t, "one stands in line", v.Machine().Ready(), []int{1, 3})
	is(t, "P16.1: Pick(1)", stepped(t, v, 1), 3)
	pick(t, v, 1)
	is(t, "one waits", v.Machine().Ready(), []int{1, 2})
	is(t, "P16.1: Pick(1)", stepped(t, v, 1), 2)
}

// Numbers that differ by how many are ready are the same.
func TestPicksThatAreTheSame(t *testing.T) {
	for n := -8; n <= 8; n++ {
		one := threeReady(t)
		pick(t, one, n)
		want := all(one)
		for _, off := range []int{-3, 3, 6, -300, 3 << 40, -3 << 40} {
			other := threeReady(t)
			pick(t, other, n+off)
			is(t, fmt.Sprintf("P16.1: Pick(%d) as Pick(%d)", n+off, n), all(other), want)
		}
		for _, off := range []int{-1, 1, 2} {
			other := threeReady(t)
			pick(t, other, n+off)
			is(t, fmt.Sprintf("P16.1: Pick(%d) as Pick(%d)", n+off, n), all(other) == want, false)
		}
	}
}

// ends: programs that come to all ends that there are.
var ends = map[string]string{
	"1 end":                     "Main\nMain.main() void: ret",
	"1 uncaught 3 (0+0i) Fault": "Main\nMain.main() void: pushint 1; pushint 0; div; pop; ret",
	"0 deadlock":                "Main\nMain.main() void: enter 0; load 0; wait; exit 0; ret",
	"1 memory":                  "Main\nMain.main() void: pushint 60; newarr; store 1; pushint 60; newarr; store 2; ret",
	"1 limit":                   "A\nA.f() void: ret\nMain\nMain.main() void: a: new A; spawn A.f; pop; goto a",
}

func TestPickOfWhatIsOver(t *testing.T) {
	for want, text := range ends {
		v := finish(t, begun(t, 100, text))
		is(t, "P16.1: events", events(v.Events()), want)
		is(t, "P16.1: it is over", v.Machine().Over(), true)
		before := all(v)
		for _, n := range numbers() {
			is(t, fmt.Sprintf("P16.1: Pick(%d) behind %s", n, want), v.Pick(n), false)
			is(t, fmt.Sprintf("P16.1: Run behind %s", want), v.Run([]int{n, 0}), 0)
			is(t, fmt.Sprintf("P16.1: Drain behind %s", want), Drain(v, n), 0)
		}
		is(t, "P16.1: nothing changes", all(v), before)
	}
}

// The last pick is true, too: it is the one behind it that isn't.
func TestTheLastPickIsTrue(t *testing.T) {
	for want, text := range ends {
		count := Drain(begun(t, 100, text), math.MaxInt)
		v := begun(t, 100, text)
		for n := range count {
			is(t, "P16.1: it isn't over", v.Machine().Over(), false)
			is(t, fmt.Sprintf("P16.1: Pick %d, to %s", n, want), v.Pick(0), true)
		}
		is(t, "P16.1: it is over", fmt.Sprint(v.Machine().Over(), v.Pick(0)), "true false")
	}
}

func TestRunOfNone(t *testing.T) {
	v := threeReady(t)
	before := all(v)
	is(t, "P16.1: Run of none", v.Run([]int{}), 0)
	is(t, "P16.1: Run of nil", v.Run(nil), 0)
	is(t, "P16.1: nothing changes", all(v), before)
}

// Run is Pick of each, whatever parts the picks come in.
func TestRunIsPickOfEach(t *testing.T) {
	picks := make([]int, 0, 60)
	for n := range cap(picks) {
		picks = append(picks, n*n*7-100*n)
	}
	for part := 1; part <= 20; part++ {
		one, other := roomy(t, busy), roomy(t, busy)
		for at := 0; at < len(picks); at += part {
			some := picks[at:min(at+part, len(picks))]
			is(t, "P16.1: how many were true", one.Run(some), len(some))
			pick(t, other, some...)
			is(t, "P16.1: Run is Pick of each", all(one), all(other))
		}
	}
}

func TestRunBeyondTheEnd(t *testing.T) {
	const steps = 6 + 5 + 5 + 5
	for more, want := range map[int]int{-2: steps - 2, -1: steps - 1, 0: steps, 1: steps, 2: steps, 50: steps} {
		v := roomy(t, three)
		is(t, fmt.Sprintf("P16.1: Run of %d", steps+more), v.Run(make([]int, steps+more)), want)
		is(t, "P16.1: whether it is over", v.Machine().Over(), more >= 0)
		is(t, "P16.1: what is left", v.Run([]int{3, 2, 1, 0}), max(-more, 0))
		is(t, "P16.1: nothing is left", v.Run([]int{3, 2, 1, 0}), 0)
	}
	for want, text := range ends {
		v := begun(t, 100, text)
		count := Drain(begun(t, 100, text), math.MaxInt)
		is(t, "P16.1: Run up to "+want, v.Run(make([]int, count/2)), count/2)
		is(t, "P16.1: Run beyond "+want, v.Run(make([]int, 1000)), count-count/2)
		is(t, "P16.1: events", events(v.Events()), want)
	}
}

func TestDrain(t *testing.T) {
	const steps = 6 + 5 + 5 + 5
	for most, want := range map[int]int{math.MinInt: 0, -1: 0, 0: 0, 1: 1, 2: 2, 20: 20, steps: steps, steps + 1: steps, 1000: steps, math.MaxInt: steps} {
		v, other := roomy(t, three), roomy(t, three)
		is(t, fmt.Sprintf("P16.1: Drain of %d", most), Drain(v, most), want)
		pick(t, other, make([]int, want)...)
		is(t, "P16.1: Drain is Pick(0)", all(v), all(other))
		is(t, "P16.1: what is left", Drain(v, math.MaxInt), steps-want)
		is(t, "P16.1: it is over", v.Machine().Over(), true)
		is(t, "P16.1: nothing is left", Drain(v, math.MaxInt), 0)
	}
	// Of what never ends by itself, but by its events.
	v := roomy(t, "Main\nMain.main() void: a: yield; goto a")
	is(t, "P16.1: Drain of what doesn't end", Drain(v, 9999), 9999)
	is(t, "P16.1: it goes on", fmt.Sprint(v.Machine().Over(), v.Pick(0)), "false true")
	v = roomy(t, "Main\nMain.main() void: a: pushint 1; out; goto a")
	is(t, "P16.1: Drain up to the limit", Drain(v, math.MaxInt), 3*api.MaxEvents+2)
}

// Drain takes the first one that is ready, which may change from pick to pick.
func TestDrainTakesTheFirst(t *testing.T) {
	v := roomy(t, three)
	Drain(v, math.MaxInt)
	is(t, "P16.1: one behind the other", events(v.Events()), "1 out 1; 1 out 2; 1 end; 2 out 7; 2 out 8; 2 end; 3 out 7; 3 out 8; 3 end")
	v = pick(t, threeReady(t), 1, 1, 2, 2)
	Drain(v, math.MaxInt)
	is(t, "P16.1: whatever was picked", events(v.Events()), "2 out 7; 3 out 7; 1 out 1; 1 out 2; 1 end; 2 out 8; 2 end; 3 out 8; 3 end")
}
