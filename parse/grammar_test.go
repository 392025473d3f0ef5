package parse

import (
	"fmt"
	"math/rand"
	"regexp"
	"slices"
	"strings"
	"testing"

	"loom/api"
)

// grammarText: the chapter's, as it stands there.
const grammarText = `
    program = {class} end
    class   = "class" NAME ["extends" NAME] "{" {member} "}"
    member  = "volatile" type NAME ";" | type NAME ";" | (type | "void") NAME "(" [type NAME {"," type NAME}] ")" block
    type    = "int" | "cpx" | "ints" | NAME
    block   = "{" {stmt} "}"
    stmt    = block | type NAME ["=" expr] ";" | "if" "(" expr ")" stmt ["else" stmt] | "while" "(" expr ")" stmt
            | "return" [expr] ";" | "throw" expr ";" | "try" block "catch" "(" NAME NAME ")" block | "sync" "(" NAME ")" block
            | ("wait" | "notify" | "notifyall" | "join" | "out") "(" expr ")" ";" | "yield" ";" | expr ["=" expr] ";"
    expr    = sum [("<" | "==" | "!=") sum]
    sum     = term {("+" | "-") term}
    term    = unary {("*" | "/" | "%") unary}
    unary   = ("-" | "~") unary | post
    post    = prim {"." NAME ["(" [expr {"," expr}] ")"] | "[" expr "]" | "as" NAME | "is" NAME}
    prim    = INT | CPX | "null" | "this" | NAME | "new" NAME | "new" "ints" "[" expr "]" | "spawn" unary | "(" expr ")"
    whole   = expr end
`

// grammar: of each name the rows that it may be; what isn't a name of it is a token: a quoted text, NAME, INT, CPX, end.
type grammar struct {
	rows map[string][][]string
	none map[string]bool // may be nothing
	made int
}

// readGrammar: {x} is made a name that is nothing, or itself and x; [x] one that is nothing, or x.
func readGrammar(text string) *grammar {
	g := &grammar{rows: map[string][][]string{}, none: map[string]bool{}}
	signs := regexp.MustCompile(`"[^"]*"|\w+|\S`).FindAllString(text, -1)
	for len(signs) > 0 {
		name := signs[0]
		signs = g.read(name, signs[2:])
	}
	for changed := true; changed; {
		changed = false
		for name, rows := range g.rows {
			for _, row := range rows {
				if !g.none[name] && !slices.ContainsFunc(row, func(s string) bool { return !g.none[s] }) {
					g.none[name], changed = true, true
				}
			}
		}
	}
	return g
}

// read: the rows of name, up to a bracket that shuts, or to the next rule.
func (g *grammar) read(name string, signs []string) []string {
	row := []string{}
	for ; len(signs) > 0; signs = signs[1:] {
		switch s := signs[0]; {
		case s == "|":
			g.rows[name] = append(g.rows[name], row)
			row = []string{}
			continue
		case s == "{" || s == "[" || s == "(":
			g.made++
			part := fmt.Sprintf("%s'%d", name, g.made)
			signs = g.read(part, signs[1:])
			switch s {
			case "{":
				for i := range g.rows[part] {
					g.rows[part][i] = append([]string{part}, g.rows[part][i]...)
				}
				fallthrough
			case "[":
				g.rows[part] = append(g.rows[part], nil)
			}
			row = append(row, part)
			continue
		case s == "}" || s == "]" || s == ")" || len(signs) > 1 && signs[1] == "=":
			g.rows[name] = append(g.rows[name], row)
			return signs
		}
		row = append(row, signs[0])
	}
	g.rows[name] = append(g.rows[name], row)
	return nil
}

// item: how far a row of a name that began ahead of a token is read.
type item struct {
	name             string
	row, done, began int
}

// chart: of all that a tree may be at each token.
type chart struct {
	g    *grammar
	sets [][]item
}

func startChart(g *grammar, name string) *chart {
	c := &chart{g: g, sets: [][]item{nil}}
	c.begin(name, map[item]bool{})
	c.close()
	return c
}

func (c *chart) begin(name string, has map[item]bool) {
	last := len(c.sets) - 1
	for row := range c.g.rows[name] {
		c.add(item{name, row, 0, last}, has)
	}
}

func (c *chart) add(it item, has map[item]bool) {
	if !has[it] {
		has[it] = true
		c.sets[len(c.sets)-1] = append(c.sets[len(c.sets)-1], it)
	}
}

func (c *chart) ahead(it item) string {
	if row := c.g.rows[it.name][it.row]; it.done < len(row) {
		return row[it.done]
	}
	return ""
}

// close: all that follows of the last set's items.
func (c *chart) close() {
	last := len(c.sets) - 1
	has := map[item]bool{}
	for _, it := range c.sets[last] {
		has[it] = true
	}
	for i := 0; i < len(c.sets[last]); i++ {
		it := c.sets[last][i]
		s := c.ahead(it)
		if s != "" {
			c.begin(s, has)
			if c.g.none[s] {
				it.done++
				c.add(it, has)
			}
			continue
		}
		for _, up := range slices.Clone(c.sets[it.began]) {
			if c.ahead(up) == it.name {
				up.done++
				c.add(up, has)
			}
		}
	}
}

// step: whether a tree goes on with this token; if none does, the chart is as it was.
func (c *chart) step(token string) bool {
	var next []item
	for _, it := range c.sets[len(c.sets)-1] {
		if c.ahead(it) == token {
			it.done++
			next = append(next, it)
		}
	}
	if next == nil {
		return false
	}
	c.sets = append(c.sets, next)
	c.close()
	return true
}

func (c *chart) back() { c.sets = c.sets[:len(c.sets)-1] }

// written: each token of the grammar, and what stands for it in a source.
func written() map[string]string {
	all := map[string]string{"NAME": "a", "INT": "1", "CPX": "2i"}
	for _, s := range strings.Fields("{ } ( ) [ ] ; , . = == != < + - * / % ~ class extends volatile int cpx ints void if else while return throw try catch sync wait notify notifyall yield join out null this new spawn as is") {
		all[`"`+s+`"`] = s
	}
	return all
}

// tokensOf: those of the grammar, rising.
func tokensOf(written map[string]string) []string {
	var all []string
	for s := range written {
		all = append(all, s)
	}
	slices.Sort(all)
	return all
}

// roads: all sources of so many tokens more, and of one that may not be there behind each.
type roads struct {
	t       *testing.T
	c       *chart
	call    func(string) (api.Node, int, api.Errno)
	tokens  []string
	written map[string]string
	tried   int
}

func (r *roads) all(src string, more int) {
	n, at, err := r.call(src)
	got := answer(n, at, err)
	if r.c.step("end") {
		r.c.back()
		if err != api.OK {
			r.t.Fatalf("P19.1: %q: %s, not a tree", src, got)
		}
	} else if got != syntax(len(src)) {
		r.t.Fatalf("P19.1: %q: %s, not %s", src, got, syntax(len(src)))
	}
	if more == 0 {
		return
	}
	for _, s := range r.tokens {
		next := src + r.written[s] + " "
		if r.c.step(s) {
			r.all(next, more-1)
			r.c.back()
			continue
		}
		r.tried++
		for _, behind := range []string{"", "; } }", "("} {
			if got := answer(r.call(next + behind)); got != syntax(len(src)) {
				r.t.Fatalf("P19.1: %q: %s, not %s", next+behind, got, syntax(len(src)))
			}
		}
	}
}

// TestAllShortSources: the error's place is that of the first token with which no tree begins any more.
func TestAllShortSources(t *testing.T) {
	g := readGrammar(grammarText)
	all := written()
	for _, c := range []struct {
		ahead string
		more  int
		few   string
	}{
		{"", 8, ""},
		{"class a {", 6, ""},
		{"class a { void a (", 6, ""},
		{"class a { a a ( ) {", 3, ""},
		{"class a { a a ( ) { a", 3, ""},
		{"class a { a a ( ) { if (", 3, ""},
		{"class a { a a ( ) { if ( a ) a ;", 3, ""},
		{"class a { a a ( ) { if ( a ) if ( a ) a ; else a ;", 2, ""},
		{"class a { a a ( ) { try { }", 6, "catch ( ) a { } 1 int this"},
		{"class a { a a ( ) { sync", 6, "( ) a { } 1 int this"},
		{"class a { a a ( ) {", 6, "{ } a ; = 1 if else ( )"},
		{"class a { a a ( ) {", 7, "{ } int yield ; return"},
	} {
		r := roads{t: t, c: startChart(g, "program"), call: Program, written: all, tokens: tokensOf(all)}
		if c.few != "" {
			r.tokens = r.few(c.few)
		}
		src := ""
		for _, s := range strings.Fields(c.ahead) {
			if token := r.tokenOf(s); !r.c.step(token) {
				t.Fatal("no source begins with " + c.ahead)
			}
			src += s + " "
		}
		r.all(src, c.more)
		t.Logf("%q: %d tokens that may not be there", c.ahead, r.tried)
	}
}

func (r *roads) tokenOf(s string) string {
	for token, text := range r.written {
		if text == s {
			return token
		}
	}
	r.t.Fatal("no token: " + s)
	return ""
}

func (r *roads) few(texts string) []string {
	var few []string
	for _, s := range strings.Fields(texts) {
		few = append(few, r.tokenOf(s))
	}
	return few
}

func TestAllShortExpressions(t *testing.T) {
	g := readGrammar(grammarText)
	all := written()
	for _, c := range []struct {
		more int
		few  string
	}{{4, ""}, {6, "a . ( ) , [ ]"}, {7, "a ( ) -"}, {6, "1 + < * ( ) as a"}, {6, "new ints [ ] 1 spawn a"}, {6, "a == ~ spawn ( )"}} {
		r := roads{t: t, c: startChart(g, "whole"), call: Expr, written: all, tokens: tokensOf(all)}
		if c.few != "" {
			r.tokens = r.few(c.few)
		}
		r.all("", c.more)
		t.Logf("%q: %d tokens that may not be there", c.few, r.tried)
	}
}

// TestDrawnSources: tokens that may be there, drawn one behind the other, and then one that may not.
func TestDrawnSources(t *testing.T) {
	g := readGrammar(grammarText)
	all := written()
	source := rand.New(rand.NewSource(19))
	for range 3000 {
		r := roads{t: t, c: startChart(g, "program"), call: Program, written: all, tokens: tokensOf(all)}
		src := ""
		for _, s := range strings.Fields("class a { int a ( ) {")[:source.Intn(9)] {
			r.c.step(r.tokenOf(s))
			src += s + " "
		}
		// With fewer tokens than may be nested the depth plays no part.
		for range source.Intn(api.MaxNest) {
			for tries := 0; ; tries++ {
				if s := r.tokens[source.Intn(len(r.tokens))]; r.c.step(s) {
					src += all[s] + " "
					break
				} else if tries > 1000 {
					t.Fatalf("nothing goes on behind %q", src)
				}
			}
		}
		r.all(src, 1)
	}
}
