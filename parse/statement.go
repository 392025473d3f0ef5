package parse

import "loom/api"

// asked: the statements that are a word and an expression in brackets.
var asked = [...]struct {
	kind int
	word string
}{
	{api.NWait, "wait"},
	{api.NNotify, "notify"},
	{api.NNotifyAll, "notifyall"},
	{api.NJoin, "join"},
	{api.NOut, "out"},
}

func (r *reader) block() api.Node {
	n := api.Node{Kind: api.NBlock, At: r.at()}
	r.need("{")
	r.deepen()
along:
	if r.failed || r.took("}") {
		r.depth--
		return n
	}
	n.Kids = append(n.Kids, r.statement())
	goto along
}

func (r *reader) statement() api.Node {
	switch r.text() {
	case "{":
		return r.block()
	case "int", "cpx", "ints":
		return r.variable()
	case "if":
		return r.choice()
	case "while":
		return r.loop()
	case "return":
		return r.leave()
	case "throw":
		n := r.begin(api.NThrow)
		return r.closed(n, r.expression())
	case "try":
		return r.try()
	case "sync":
		return r.sync()
	case "yield":
		return r.closed(r.begin(api.NYield))
	}
	for _, a := range asked {
		if r.text() == a.word {
			n := r.begin(a.kind)
			return r.closed(n, r.bracketed())
		}
	}
	// A name isn't the last token: the end is.
	if r.token().Kind == api.KName && r.tokens[r.next+1].Kind == api.KName {
		return r.variable()
	}
	return r.evaluated()
}

// closed: n with these children and the `;` behind it.
func (r *reader) closed(n api.Node, kids ...api.Node) api.Node {
	n.Kids = append(n.Kids, kids...)
	r.need(";")
	return n
}

// bracketed: an expression in brackets that make nothing deeper.
func (r *reader) bracketed() api.Node {
	r.need("(")
	n := r.expression()
	r.need(")")
	return n
}

func (r *reader) variable() api.Node {
	n := api.Node{Kind: api.NVar, At: r.at(), Kids: []api.Node{r.anyType()}}
	n.Text = r.name()
	if r.took("=") {
		n.Kids = append(n.Kids, r.expression())
	}
	return r.closed(n)
}

func (r *reader) choice() api.Node {
	n := r.begin(api.NIf)
	n.Kids = append(n.Kids, r.bracketed(), r.within(r.statement))
	if r.took("else") {
		n.Kids = append(n.Kids, r.within(r.statement))
	}
	return n
}

func (r *reader) loop() api.Node {
	n := r.begin(api.NWhile)
	n.Kids = append(n.Kids, r.bracketed(), r.within(r.statement))
	return n
}

func (r *reader) leave() api.Node {
	n := r.begin(api.NReturn)
	if r.text() != ";" {
		n.Kids = append(n.Kids, r.expression())
	}
	return r.closed(n)
}

func (r *reader) try() api.Node {
	n := r.begin(api.NTry)
	n.Kids = append(n.Kids, r.block())
	r.need("catch")
	r.need("(")
	n.Kids = append(n.Kids, r.classType())
	n.Text = r.name()
	r.need(")")
	n.Kids = append(n.Kids, r.block())
	return n
}

func (r *reader) sync() api.Node {
	n := r.begin(api.NSync)
	r.need("(")
	n.Text = r.name()
	r.need(")")
	n.Kids = append(n.Kids, r.block())
	return n
}

// evaluated: an expression by itself, or one that is set to another one's value.
func (r *reader) evaluated() api.Node {
	n := r.expression()
	if r.text() != "=" {
		return r.closed(api.Node{Kind: api.NExpr, At: n.At}, n)
	}
	set := r.begin(api.NAssign)
	return r.closed(set, n, r.expression())
}
