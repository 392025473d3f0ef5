package parse

import (
	"strconv"

	"loom/api"
	"loom/lex"
)

// writer: the tokens of a tree that has its form.
type writer struct{ tokens []api.Token }

// text: the tokens of n as one line.
func text(n api.Node) string {
	var w writer
	if n.Kind == api.NProgram {
		w.classes(n.Kids)
	} else {
		w.expression(n)
	}
	return lex.Print(w.tokens)
}

func (w *writer) put(texts ...string) {
	for _, s := range texts {
		w.tokens = append(w.tokens, api.Token{Text: s})
	}
}

func (w *writer) classes(list []api.Node) {
	for _, n := range list {
		w.put("class", n.Text)
		if above := n.Kids[0].Text; above != "" {
			w.put("extends", above)
		}
		w.put("{")
		for _, m := range n.Kids[1:] {
			w.member(m)
		}
		w.put("}")
	}
}

func (w *writer) member(n api.Node) {
	if n.Int == 1 {
		w.put("volatile")
	}
	w.put(n.Kids[0].Text, n.Text)
	if n.Kind == api.NField {
		w.put(";")
		return
	}
	last := len(n.Kids) - 1
	w.put("(")
	for i, p := range n.Kids[1:last] {
		if i > 0 {
			w.put(",")
		}
		w.put(p.Kids[0].Text, p.Text)
	}
	w.put(")")
	w.block(n.Kids[last])
}

func (w *writer) block(n api.Node) {
	w.put("{")
	for _, s := range n.Kids {
		w.statement(s)
	}
	w.put("}")
}

func (w *writer) statement(n api.Node) {
	switch n.Kind {
	case api.NBlock:
		w.block(n)
	case api.NVar:
		w.variable(n)
	case api.NAssign:
		w.expression(n.Kids[0])
		w.put("=")
		w.valued(n.Kids[1:])
	case api.NIf:
		w.choice(n)
	case api.NWhile:
		w.put("while")
		w.bracketed(n.Kids[0])
		w.statement(n.Kids[1])
	case api.NReturn:
		w.put("return")
		w.valued(n.Kids)
	case api.NThrow:
		w.put("throw")
		w.valued(n.Kids)
	case api.NTry:
		w.put("try")
		w.block(n.Kids[0])
		w.put("catch", "(", n.Kids[1].Text, n.Text, ")")
		w.block(n.Kids[2])
	case api.NSync:
		w.put("sync", "(", n.Text, ")")
		w.block(n.Kids[0])
	case api.NYield:
		w.put("yield", ";")
	case api.NExpr:
		w.valued(n.Kids)
	default:
		w.asked(n)
	}
}

// valued: the expressions that are there, none or one, and the end of their statement.
func (w *writer) valued(list []api.Node) {
	for _, n := range list {
		w.expression(n)
	}
	w.put(";")
}

func (w *writer) bracketed(n api.Node) {
	w.put("(")
	w.expression(n)
	w.put(")")
}

func (w *writer) variable(n api.Node) {
	w.put(n.Kids[0].Text, n.Text)
	if len(n.Kids) == 2 {
		w.put("=")
	}
	w.valued(n.Kids[1:])
}

func (w *writer) choice(n api.Node) {
	w.put("if")
	w.bracketed(n.Kids[0])
	w.statement(n.Kids[1])
	if len(n.Kids) == 3 {
		w.put("else")
		w.statement(n.Kids[2])
	}
}

// asked: a statement that is a word and an expression in brackets.
func (w *writer) asked(n api.Node) {
	for _, a := range asked {
		if a.kind == n.Kind {
			w.put(a.word)
		}
	}
	w.bracketed(n.Kids[0])
	w.put(";")
}

// expression: one that is more than what stands ahead of a `.` or a `[` has brackets of its own, so that no other sign reaches into it.
func (w *writer) expression(n api.Node) {
	switch n.Kind {
	case api.NInt, api.NCplx:
		w.put(number(n))
	case api.NNull:
		w.put("null")
	case api.NThis:
		w.put("this")
	case api.NName:
		w.put(n.Text)
	case api.NGet:
		w.expression(n.Kids[0])
		w.put(".", n.Text)
	case api.NCall:
		w.call(n)
	case api.NIndex:
		w.expression(n.Kids[0])
		w.put("[")
		w.expression(n.Kids[1])
		w.put("]")
	case api.NNew:
		w.put("new", n.Text)
	case api.NNewArr:
		w.put("new", "ints", "[")
		w.expression(n.Kids[0])
		w.put("]")
	default:
		w.put("(")
		w.open(n)
		w.put(")")
	}
}

// open: an expression without the brackets that it needs.
func (w *writer) open(n api.Node) {
	switch n.Kind {
	case api.NSpawn:
		w.put("spawn")
		w.expression(n.Kids[0])
	case api.NUn:
		w.put(n.Text)
		w.expression(n.Kids[0])
	case api.NBin:
		w.expression(n.Kids[0])
		w.put(n.Text)
		w.expression(n.Kids[1])
	case api.NCast:
		w.expression(n.Kids[0])
		w.put("as", n.Text)
	case api.NIs:
		w.expression(n.Kids[0])
		w.put("is", n.Text)
	}
}

func (w *writer) call(n api.Node) {
	w.expression(n.Kids[0])
	w.put(".", n.Text, "(")
	for i, a := range n.Kids[1:] {
		if i > 0 {
			w.put(",")
		}
		w.expression(a)
	}
	w.put(")")
}

// number: the text of an NInt or NCplx, if a token has its number.
func number(n api.Node) string {
	switch {
	case n.Kind == api.NInt:
		return strconv.FormatInt(n.Int, 10)
	case imag(n.Cplx) == 0:
		return strconv.FormatInt(int64(real(n.Cplx)), 10) + "c"
	}
	return strconv.FormatInt(int64(imag(n.Cplx)), 10) + "i"
}
