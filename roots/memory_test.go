package roots

import (
	"fmt"
	"slices"
	"strings"
	"testing"

	"loom/api"
	"loom/link"
)

// rich: a method whose maps have something in all lists, and nothing in some: one that isn't reached, a handler.
func rich(t testing.TB) api.Method {
	return method(t, "A int arr cplx", 3, 5, `null; pushint 7; load 1; x: load 4; load 3; pop; y: pop; store 5; pop; pop; ret;
		add; z: store 6; ret; catch x y z 0 B`)
}

const richText = `rr.r....| rr.r....|r rr.r....|r. rr.r....|r.r rr.r....|r.r. rr.r....|r.r.r rr.r....|r.r. rr.r....|r.r
	rr.r.r..|r. rr.r.r..|r rr.r.r..| none rr.r....|r rr.r..r.|`

func richMaps(t testing.TB) *Maps {
	t.Helper()
	return mapsOf(t, linked(t, world(rich(t))))
}

// richTold: what is told of rich's instructions, as richText has it; all other methods too.
func richTold(t testing.TB, m *Maps) bool {
	t.Helper()
	others := tellAll(m, "Main", "main", 2) + tellAll(m, "A", "take", 3) + tellAll(m, "A", "list", 3)
	return tellAll(m, "Main", "it", 14) == strings.Join(strings.Fields(richText), " ") && others == "r| noner..rr| r..rr|r noner.| r.|r none"
}

// overwrite: all of a list, its spare room too, with the opposite.
func overwrite(list []bool) {
	list = list[:cap(list)]
	for at := range list {
		list[at] = !list[at]
	}
}

func TestAtAnswersNewMemory(t *testing.T) {
	m := richMaps(t)
	if !richTold(t, m) {
		t.Fatalf("P10.1: %s", tellAll(m, "Main", "it", 14))
	}
	for pc := range 14 {
		early, earlyStack, ok := m.At("Main", "it", pc)
		keptLocals, keptStack := slices.Clone(early), slices.Clone(earlyStack)
		for range 2 {
			locals, stack, _ := m.At("Main", "it", pc)
			overwrite(locals)
			overwrite(stack)
			_, _ = append(locals, true, true, true), append(stack, true, true, true)
			if !richTold(t, m) {
				t.Fatalf("P10.1: an answer of %d was kept: %s", pc, tellAll(m, "Main", "it", 14))
			}
		}
		if !slices.Equal(early, keptLocals) || !slices.Equal(earlyStack, keptStack) || ok != (pc != 11) {
			t.Errorf("P10.1: an earlier answer of %d was touched: %v, %v, %v", pc, early, earlyStack, ok)
		}
		overwrite(early)
		overwrite(earlyStack)
		if !richTold(t, m) || !richTold(t, richMaps(t)) {
			t.Fatalf("P10.1: an answer of %d was kept: %s", pc, tellAll(m, "Main", "it", 14))
		}
	}
}

func TestListsOfOneAnswerShareNothing(t *testing.T) {
	m := richMaps(t)
	for pc := range 14 {
		locals, stack, _ := m.At("Main", "it", pc)
		kept := slices.Clone(stack)
		overwrite(locals)
		_ = append(locals, true, false, true, false, true, false)
		if !slices.Equal(stack, kept) {
			t.Errorf("P10.1: the stack of %d shares memory: %v", pc, stack)
		}
		locals, stack, _ = m.At("Main", "it", pc)
		kept = slices.Clone(locals)
		overwrite(stack)
		_ = append(stack, true, false, true, false, true, false)
		if !slices.Equal(locals, kept) {
			t.Errorf("P10.1: the locals of %d share memory: %v", pc, locals)
		}
	}
}

// Two maps of one program know nothing of one another.
func TestMapsShareNothing(t *testing.T) {
	p := linked(t, world(rich(t)))
	one, other := mapsOf(t, p), mapsOf(t, p)
	for pc := range 14 {
		locals, stack, _ := one.At("Main", "it", pc)
		overwrite(locals)
		overwrite(stack)
	}
	if !richTold(t, one) || !richTold(t, other) || one == other {
		t.Errorf("P10.1: %s, %s", tellAll(one, "Main", "it", 14), tellAll(other, "Main", "it", 14))
	}
}

// programText: all that a program tells of its classes.
func programText(p *link.Program) string {
	text := ""
	for number := 0; p.Name(number) != ""; number++ {
		c, _ := p.Class(p.Name(number))
		l, _ := p.Layout(p.Name(number))
		text += fmt.Sprintf("%+v %+v\n", c, l)
	}
	return text
}

func TestChangesNothingOfTheProgram(t *testing.T) {
	for _, m := range []api.Method{rich(t), method(t, "", 0, 1, "pop; ret"), method(t, "", 0, 1, "enter 0; ret")} {
		l := world(m)
		handedIn := fmt.Sprintf("%+v", l)
		p := linked(t, l)
		before := programText(p)
		for range 2 {
			maps, err := Of(p)
			for pc := -1; err == api.OK && pc < 15; pc++ {
				locals, stack, _ := maps.At("Main", "it", pc)
				overwrite(locals)
				overwrite(stack)
				maps.Depth("Main", "it", pc)
			}
		}
		if programText(p) != before || fmt.Sprintf("%+v", l) != handedIn {
			t.Errorf("the program was changed: %s", programText(p))
		}
	}
}

// Whatever becomes of the classes, those that were handed in and those that the program tells, the maps stay.
func TestKeepsNothingThatIsHandedIn(t *testing.T) {
	spoil := func(c api.Class) {
		for at := range c.Methods {
			m := &c.Methods[at]
			clear(m.Code)
			clear(m.Params)
			clear(m.Handlers)
			m.Name, m.Locals, m.Stack = "spoilt", 1, 0
		}
		clear(c.Pool)
		clear(c.Fields)
	}
	for _, ahead := range []bool{true, false} {
		l := world(rich(t))
		p := linked(t, l)
		var m *Maps
		if !ahead {
			m = mapsOf(t, p)
		}
		for at, c := range l {
			told, _ := p.Class(c.Name)
			spoil(c)
			spoil(told)
			l[at].Name = "Spoilt"
		}
		if ahead {
			m = mapsOf(t, p)
		}
		if !richTold(t, m) {
			t.Errorf("P10.1: %s", tellAll(m, "Main", "it", 14))
		}
	}
}

func TestTellsTheSameWhateverWasAskedBetween(t *testing.T) {
	p := linked(t, world(rich(t)))
	m := mapsOf(t, p)
	other := mapsOf(t, linked(t, world(method(t, "", 1, 1, "null; store 1; ret"))))
	for range 3 {
		if !richTold(t, m) || tellAll(other, "Main", "it", 4) != "r.| r.|r rr| none" {
			t.Fatalf("P10.1: %s, %s", tellAll(m, "Main", "it", 14), tellAll(other, "Main", "it", 4))
		}
		for _, class := range []string{"Main", "A", "B", "Object", "Fault", "X", ""} {
			for _, name := range []string{"it", "main", "run", "list", "x", ""} {
				for pc := 15; pc >= -3; pc-- {
					m.Depth(class, name, pc)
					m.At(class, name, pc)
					other.At(class, name, pc)
				}
			}
		}
		if more, err := Of(p); err != api.OK || !richTold(t, more) {
			t.Errorf("P10.1: %d", err)
		}
		refused(t, world(method(t, "", 0, 1, "pop; ret")), api.ErrStack)
		refused(t, world(method(t, "", 0, 1, "enter 0; ret")), api.ErrLock)
	}
}

// Who asks gets what was made by Of: nothing is worked out any more, but for the copies of two lists.
func TestMapsAreMadeOnce(t *testing.T) {
	m := richMaps(t)
	for pc := -1; pc < 15; pc++ {
		if count := testing.AllocsPerRun(50, func() { m.At("Main", "it", pc) }); count > 2 {
			t.Errorf("At of %d takes memory %v times", pc, count)
		}
		if count := testing.AllocsPerRun(50, func() { m.Depth("Main", "it", pc) }); count > 0 {
			t.Errorf("Depth of %d takes memory %v times", pc, count)
		}
	}
}

func TestTellsTheSameToManyAtOnce(t *testing.T) {
	p := linked(t, world(rich(t)))
	m := mapsOf(t, p)
	done := make(chan bool)
	for range 8 {
		go func() {
			fine := true
			for range 20 {
				fine = fine && richTold(t, m)
				locals, stack, _ := m.At("Main", "it", 4)
				overwrite(locals)
				overwrite(stack)
			}
			more, err := Of(p)
			done <- fine && err == api.OK && richTold(t, more)
		}()
	}
	for range 8 {
		if !<-done {
			t.Errorf("P10.1: something else was told")
		}
	}
}
