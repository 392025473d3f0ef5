package parse

import (
	"math/rand"
	"strconv"
	"strings"
	"testing"

	"loom/api"
)

// maker draws a tree, and as it goes the tokens of a source of it, each with how deep it is nested. Until the source is laid out a place is a token's number.
type maker struct {
	*rand.Rand
	texts  []string
	depths []int
	depth  int
	room   int // how many nodes more, about
}

// put: a token; its number.
func (m *maker) put(text string) int {
	m.texts, m.depths = append(m.texts, text), append(m.depths, m.depth)
	return len(m.texts) - 1
}

// one: whether it is drawn, once in n times.
func (m *maker) one(n int) bool { return m.Intn(n) == 0 }

func (m *maker) name() string {
	names := []string{"a", "b", "x", "$", "_1", "len", "Main", "Object", "aaaaaaaaaaaaaaaaaaaa", "classes"}
	return names[m.Intn(len(names))]
}

func (m *maker) word(kind int, text string) api.Node {
	return api.Node{Kind: kind, At: m.put(text)}
}

// named: what a token's text is of.
func (m *maker) named(kind int, text string) api.Node {
	return api.Node{Kind: kind, At: m.put(text), Text: text}
}

func (m *maker) within(make func()) {
	m.depth++
	make()
	m.depth--
}

// Ranks of expressions: which stand where.
const (
	whole = iota
	ofSum
	ofTerm
	ofUnary
	ofPost
)

// expr: one that may stand where this rank may.
func (m *maker) expr(rank int) api.Node {
	var n api.Node
	m.room--
	kind := m.Intn(12)
	if m.room <= 0 {
		kind = 0
	}
	switch {
	case kind < 2:
		return m.leaf()
	case kind == 2:
		m.put("(")
		m.within(func() { n = m.expr(whole) })
		m.put(")")
		return n
	case kind < 6 && rank < ofPost:
		return m.signed(rank)
	}
	return m.post()
}

func (m *maker) signed(rank int) api.Node {
	n := api.Node{Kind: api.NBin}
	left, right, signs := ofSum, ofSum, []string{"<", "==", "!="}
	switch m.Intn(4-rank) + rank {
	case ofSum:
		left, right, signs = ofSum, ofTerm, []string{"+", "-"}
	case ofTerm:
		left, right, signs = ofTerm, ofUnary, []string{"*", "/", "%"}
	case ofUnary:
		signs = []string{"-", "~", "spawn"}
		n.Text = signs[m.Intn(3)]
		n.Kind = api.NUn
		n.At = m.put(n.Text)
		if n.Text == "spawn" {
			n.Kind, n.Text = api.NSpawn, ""
		}
		m.within(func() { n.Kids = []api.Node{m.expr(ofUnary)} })
		return n
	}
	n.Kids = append(n.Kids, m.expr(left))
	n.Text = signs[m.Intn(len(signs))]
	n.At = m.put(n.Text)
	n.Kids = append(n.Kids, m.expr(right))
	return n
}

func (m *maker) leaf() api.Node {
	switch m.Intn(7) {
	case 0:
		return m.word(api.NNull, "null")
	case 1:
		return m.word(api.NThis, "this")
	case 2:
		n := m.word(api.NNew, "new")
		n.Text = m.name()
		m.put(n.Text)
		return n
	case 3:
		k := m.Int63n(1000)
		n := m.word(api.NInt, strconv.FormatInt(k, 10))
		n.Int = k
		return n
	case 4:
		k := m.Int63n(1000)
		n := m.word(api.NCplx, strconv.FormatInt(k, 10)+"c")
		n.Cplx = complex(float64(k), 0)
		return n
	case 5:
		k := m.Int63n(1000)
		n := m.word(api.NCplx, strconv.FormatInt(k, 10)+"i")
		n.Cplx = complex(0, float64(k))
		return n
	}
	return m.named(api.NName, m.name())
}

func (m *maker) post() api.Node {
	if m.one(6) {
		n := m.word(api.NNewArr, "new")
		m.put("ints")
		m.put("[")
		m.within(func() { n.Kids = []api.Node{m.expr(whole)} })
		m.put("]")
		return n
	}
	n := api.Node{Kids: []api.Node{m.expr(ofPost)}}
	switch m.Intn(5) {
	case 0:
		n.Kind, n.At = api.NIndex, m.put("[")
		m.within(func() { n.Kids = append(n.Kids, m.expr(whole)) })
		m.put("]")
		return n
	case 1:
		n.Kind, n.At = api.NCast, m.put("as")
	case 2:
		n.Kind, n.At = api.NIs, m.put("is")
	default:
		n.Kind, n.At = api.NGet, m.put(".")
	}
	n.Text = m.name()
	m.put(n.Text)
	if n.Kind == api.NGet && m.one(2) {
		n.Kind = api.NCall
		m.put("(")
		m.within(func() { n.Kids = append(n.Kids, m.arguments()...) })
		m.put(")")
	}
	return n
}

func (m *maker) arguments() []api.Node {
	var list []api.Node
	for i := range m.Intn(4) {
		if i > 0 {
			m.put(",")
		}
		list = append(list, m.expr(whole))
	}
	return list
}

func (m *maker) block() api.Node {
	n := m.word(api.NBlock, "{")
	m.within(func() {
		for range m.Intn(4) {
			n.Kids = append(n.Kids, m.stmt(false))
		}
	})
	m.put("}")
	return n
}

func (m *maker) bracketed() api.Node {
	m.put("(")
	n := m.expr(whole)
	m.put(")")
	return n
}

func (m *maker) anyType(words ...string) api.Node {
	if m.one(2) {
		return m.named(api.NType, m.name())
	}
	return m.named(api.NType, words[m.Intn(len(words))])
}

// stmt: shut: one that has an else behind it, so that no if in it may take that.
func (m *maker) stmt(shut bool) api.Node {
	m.room--
	kind := m.Intn(12)
	if m.room <= 0 {
		kind = 11
	}
	switch kind {
	case 0:
		return m.block()
	case 1, 2:
		n := m.word(api.NIf, "if")
		n.Kids = append(n.Kids, m.bracketed())
		hasElse := shut || m.one(2)
		m.within(func() { n.Kids = append(n.Kids, m.stmt(hasElse)) })
		if hasElse {
			m.put("else")
			m.within(func() { n.Kids = append(n.Kids, m.stmt(shut)) })
		}
		return n
	case 3:
		n := m.word(api.NWhile, "while")
		n.Kids = append(n.Kids, m.bracketed())
		m.within(func() { n.Kids = append(n.Kids, m.stmt(shut)) })
		return n
	case 4:
		n := m.word(api.NTry, "try")
		n.Kids = append(n.Kids, m.block())
		m.put("catch")
		m.put("(")
		n.Kids = append(n.Kids, m.named(api.NType, m.name()))
		n.Text = m.name()
		m.put(n.Text)
		m.put(")")
		n.Kids = append(n.Kids, m.block())
		return n
	case 5:
		n := m.word(api.NSync, "sync")
		m.put("(")
		n.Text = m.name()
		m.put(n.Text)
		m.put(")")
		n.Kids = append(n.Kids, m.block())
		return n
	}
	n := m.flat()
	m.put(";")
	return n
}

// flat: a statement without statements in it, up to its `;`.
func (m *maker) flat() api.Node {
	var n api.Node
	switch m.Intn(7) {
	case 0:
		of := m.anyType("int", "cpx", "ints")
		n = api.Node{Kind: api.NVar, At: of.At, Text: m.name(), Kids: []api.Node{of}}
		m.put(n.Text)
		if m.one(2) {
			m.put("=")
			n.Kids = append(n.Kids, m.expr(whole))
		}
	case 1:
		n = api.Node{Kind: api.NAssign, Kids: []api.Node{m.expr(whole)}}
		n.At = m.put("=")
		n.Kids = append(n.Kids, m.expr(whole))
	case 2:
		n = m.word(api.NReturn, "return")
		if m.one(2) {
			n.Kids = append(n.Kids, m.expr(whole))
		}
	case 3:
		n = m.word(api.NThrow, "throw")
		n.Kids = append(n.Kids, m.expr(whole))
	case 4:
		kind := []int{api.NWait, api.NNotify, api.NNotifyAll, api.NJoin, api.NOut}[m.Intn(5)]
		n = m.word(kind, kindNames[kind])
		n.Kids = append(n.Kids, m.bracketed())
	case 5:
		n = m.word(api.NYield, "yield")
	default:
		of := m.expr(whole)
		n = api.Node{Kind: api.NExpr, At: of.At, Kids: []api.Node{of}}
	}
	return n
}

func (m *maker) member() api.Node {
	var n api.Node
	if m.one(2) {
		n = api.Node{Kind: api.NField, At: len(m.texts), Int: m.Int63n(2)}
		if n.Int == 1 {
			m.put("volatile")
		}
		n.Kids = []api.Node{m.anyType("int", "cpx", "ints")}
		n.Text = m.name()
		m.put(n.Text)
		m.put(";")
		return n
	}
	of := m.anyType("int", "cpx", "ints", "void")
	n = api.Node{Kind: api.NMethod, At: of.At, Text: m.name(), Kids: []api.Node{of}}
	m.put(n.Text)
	m.put("(")
	for i := range m.Intn(4) {
		if i > 0 {
			m.put(",")
		}
		of := m.anyType("int", "cpx", "ints")
		n.Kids = append(n.Kids, api.Node{Kind: api.NParam, At: of.At, Text: m.name(), Kids: []api.Node{of}})
		m.put(n.Kids[len(n.Kids)-1].Text)
	}
	m.put(")")
	n.Kids = append(n.Kids, m.block())
	return n
}

func (m *maker) program() api.Node {
	n := api.Node{Kind: api.NProgram}
	for range m.Intn(3) {
		c := m.word(api.NClass, "class")
		c.Text = m.name()
		m.put(c.Text)
		above := api.Node{Kind: api.NType, At: c.At}
		if m.one(2) {
			m.put("extends")
			above = m.named(api.NType, m.name())
		}
		c.Kids = append(c.Kids, above)
		m.put("{")
		for range m.Intn(4) {
			c.Kids = append(c.Kids, m.member())
		}
		m.put("}")
		n.Kids = append(n.Kids, c)
	}
	return n
}

// laid: a source of the tokens, with what may stand between, and where each of them is.
func (m *maker) laid() (string, []int) {
	var src strings.Builder
	var places []int
	gaps := []string{"", "", " ", " ", "\n", "\t \r\n", "// note ) }\n", "///\n"}
	for i, text := range append(m.texts, "") {
		gap := gaps[m.Intn(len(gaps))]
		if i > 0 && gap == "" {
			gap = gapBetween(m.texts[i-1], text)
		} else if i > 0 && m.texts[i-1] == "/" {
			gap = " " + gap
		}
		src.WriteString(gap)
		places = append(places, src.Len())
		src.WriteString(text)
	}
	return src.String(), places
}

// gapBetween: a blank, if two tokens would be one, or a note, without it.
func gapBetween(a, b string) string {
	both := a + b
	if b != "" && (!strings.Contains("{}()[];,.=<+-*/%~!", a[len(a)-1:]) && !strings.Contains("{}()[];,.=<+-*/%~!", b[:1]) || both == "//" || b[0] == '=') {
		return " "
	}
	return ""
}

// placed: n with tokens' places for their numbers.
func placed(n api.Node, places []int) api.Node {
	n.At = places[n.At]
	for i := range n.Kids {
		n.Kids[i] = placed(n.Kids[i], places)
	}
	return n
}

// expected: the answer for a source of m's tokens.
func (m *maker) expected(n api.Node, places []int) string {
	for i, depth := range m.depths {
		if depth > api.MaxNest {
			return syntax(places[i])
		}
	}
	return say(placed(n, places))
}

func TestDrawnTrees(t *testing.T) {
	deep, long := 0, 0
	for seed := range 30000 {
		m := maker{Rand: rand.New(rand.NewSource(int64(seed)))}
		m.room = m.Intn(120)
		var n api.Node
		call, promise := Program, "P19.1"
		if isExpr := m.one(3); isExpr {
			n = m.expr(whole)
			call, promise = Expr, "P19.3"
		} else {
			n = m.program()
		}
		src, places := m.laid()
		if len(src) > api.MaxSource {
			long++
			continue
		}
		want := m.expected(n, places)
		got, at, err := call(src)
		if told := answer(got, at, err); told != want {
			t.Fatalf("%s: %q: %s, not %s", promise, src, told, want)
		}
		if err != api.OK {
			deep++
			continue
		}
		comesBack(t, got)
	}
	t.Logf("%d nested too deep, %d too long", deep, long)
	if deep < 500 {
		t.Errorf("only %d drawn trees are nested too deep", deep)
	}
}

// comesBack: what is printed of a tree is read as the same one, if it isn't nested too deep, nor too long.
func comesBack(t testing.TB, n api.Node) {
	t.Helper()
	s := Print(n)
	if want := show(n); s != want {
		t.Fatalf("P19.3: Print: %q, not %q", short(s), short(want))
	}
	call := Expr
	if n.Kind == api.NProgram {
		call = Program
	}
	again, at, err := call(s)
	switch isDeep := deepest(n, 0) > api.MaxNest; {
	case len(s) > api.MaxSource:
		if err != api.ErrBig {
			t.Fatalf("P19.1: %d bytes: %v", len(s), err)
		}
	case isDeep != (err == api.ErrSyntax):
		t.Fatalf("P19.4: %q, which is nested %d deep: %v at %d", short(s), deepest(n, 0), err, at)
	case !isDeep && (err != api.OK || !Same(n, again) || !Same(again, n) || Count(n) != Count(again) || Print(again) != s):
		t.Fatalf("P19.4: %q is read as %s", s, answer(again, at, err))
	}
}

func FuzzTrees(f *testing.F) {
	for _, s := range []string{"", "1+2*3", "a.f(-b, new ints[3])[0] as C is D", "class A extends B { volatile int v; void f(int x) { if (x < 1) out(1); else { } } }", "class A{int f(){try{throw a;}catch(E e){sync(e){wait(e);}}return spawn a.b();}}"} {
		f.Add(s)
	}
	f.Fuzz(func(t *testing.T, s string) {
		for _, call := range []func(string) (api.Node, int, api.Errno){Program, Expr} {
			n, at, err := call(s)
			if at < 0 || at > len(s) || err == api.OK && at != 0 || err != api.OK && say(n) != "-@0" {
				t.Fatalf("P19.1: %q: %s, %v at %d", s, say(n), err, at)
			}
			if err == api.OK {
				comesBack(t, n)
			}
		}
	})
}
