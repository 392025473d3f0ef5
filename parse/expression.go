package parse

import "loom/api"

func (r *reader) expression() api.Node {
	n := r.sum()
	switch r.text() {
	case "<", "==", "!=":
		return r.binary(n, r.sum)
	}
	return n
}

func (r *reader) sum() api.Node {
	n := r.term()
along:
	switch r.text() {
	case "+", "-":
		n = r.binary(n, r.term)
		goto along
	}
	return n
}

func (r *reader) term() api.Node {
	n := r.unary()
along:
	switch r.text() {
	case "*", "/", "%":
		n = r.binary(n, r.unary)
		goto along
	}
	return n
}

// binary: of left and what right reads behind the sign that is next.
func (r *reader) binary(left api.Node, right func() api.Node) api.Node {
	sign := r.take()
	return api.Node{Kind: api.NBin, At: sign.At, Text: sign.Text, Kids: []api.Node{left, right()}}
}

func (r *reader) unary() api.Node {
	switch r.text() {
	case "-", "~":
		sign := r.take()
		return api.Node{Kind: api.NUn, At: sign.At, Text: sign.Text, Kids: []api.Node{r.within(r.unary)}}
	}
	return r.post()
}

// post: what begins an expression, and what is asked of it, one thing behind the other.
func (r *reader) post() api.Node {
	n := r.primary()
along:
	switch r.text() {
	case ".":
		n = r.part(n)
	case "[":
		n = r.element(n)
	case "as":
		n = r.classed(api.NCast, n)
	case "is":
		n = r.classed(api.NIs, n)
	default:
		return n
	}
	goto along
}

// part: a field, or a method that is called.
func (r *reader) part(of api.Node) api.Node {
	n := r.begin(api.NGet)
	n.Text = r.name()
	n.Kids = append(n.Kids, of)
	if r.took("(") {
		n.Kind = api.NCall
		n.Kids = append(n.Kids, r.arguments()...)
	}
	return n
}

func (r *reader) element(of api.Node) api.Node {
	n := r.begin(api.NIndex)
	n.Kids = append(n.Kids, of, r.within(r.expression))
	r.need("]")
	return n
}

// classed: a keyword behind an expression, and a class's name.
func (r *reader) classed(kind int, of api.Node) api.Node {
	n := r.begin(kind)
	n.Text = r.name()
	n.Kids = append(n.Kids, of)
	return n
}

// arguments: up to the bracket behind them.
func (r *reader) arguments() []api.Node {
	var list []api.Node
	if r.took(")") {
		return nil
	}
	r.deepen()
next:
	list = append(list, r.expression())
	if r.took(",") {
		goto next
	}
	r.depth--
	r.need(")")
	return list
}

func (r *reader) primary() api.Node {
	switch t := r.token(); t.Kind {
	case api.KInt:
		n := r.begin(api.NInt)
		n.Int = t.Int
		return n
	case api.KCplx:
		n := r.begin(api.NCplx)
		n.Cplx = t.Cplx
		return n
	case api.KName:
		n := r.begin(api.NName)
		n.Text = t.Text
		return n
	}
	switch r.text() {
	case "null":
		return r.begin(api.NNull)
	case "this":
		return r.begin(api.NThis)
	case "new":
		return r.made()
	case "spawn":
		n := r.begin(api.NSpawn)
		n.Kids = append(n.Kids, r.within(r.unary))
		return n
	case "(":
		r.take()
		n := r.within(r.expression)
		r.need(")")
		return n
	}
	r.fail()
	return api.Node{}
}

// made: an object or an array.
func (r *reader) made() api.Node {
	n := r.begin(api.NNew)
	if !r.took("ints") {
		n.Text = r.name()
		return n
	}
	n.Kind = api.NNewArr
	r.need("[")
	n.Kids = append(n.Kids, r.within(r.expression))
	r.need("]")
	return n
}
