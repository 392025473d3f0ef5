package parse

import "loom/api"

func (r *reader) program() api.Node {
	n := api.Node{Kind: api.NProgram, At: r.at()}
along:
	if r.text() != "class" {
		return n
	}
	n.Kids = append(n.Kids, r.class())
	goto along
}

func (r *reader) class() api.Node {
	n := r.begin(api.NClass)
	n.Text = r.name()
	above := api.Node{Kind: api.NType, At: n.At}
	if r.took("extends") {
		above = r.classType()
	}
	n.Kids = append(n.Kids, above)
	r.need("{")
along:
	if r.failed || r.took("}") {
		return n
	}
	n.Kids = append(n.Kids, r.member())
	goto along
}

// member: a field, or a method: which one is known behind its name at the latest.
func (r *reader) member() api.Node {
	n := api.Node{Kind: api.NField, At: r.at()}
	if r.took("volatile") {
		n.Int = 1
		n.Kids = append(n.Kids, r.anyType())
		n.Text = r.name()
		goto field
	}
	if r.text() == "void" {
		n.Kids = append(n.Kids, r.wordType())
		n.Text = r.name()
		goto method
	}
	n.Kids = append(n.Kids, r.anyType())
	n.Text = r.name()
	if r.text() == "(" {
		goto method
	}
field:
	r.need(";")
	return n
method:
	n.Kind = api.NMethod
	n.Kids = append(n.Kids, r.parameters()...)
	n.Kids = append(n.Kids, r.block())
	return n
}

func (r *reader) parameters() []api.Node {
	var list []api.Node
	r.need("(")
	if r.took(")") {
		return nil
	}
next:
	list = append(list, r.parameter())
	if r.took(",") {
		goto next
	}
	r.need(")")
	return list
}

func (r *reader) parameter() api.Node {
	n := api.Node{Kind: api.NParam, At: r.at(), Kids: []api.Node{r.anyType()}}
	n.Text = r.name()
	return n
}

// anyType: a type that something may be of.
func (r *reader) anyType() api.Node {
	switch r.text() {
	case "int", "cpx", "ints":
		return r.wordType()
	}
	return r.classType()
}

// wordType: the type that the next token is.
func (r *reader) wordType() api.Node {
	t := r.take()
	return api.Node{Kind: api.NType, At: t.At, Text: t.Text}
}

// classType: the type that has the next token's name.
func (r *reader) classType() api.Node {
	n := api.Node{Kind: api.NType, At: r.at()}
	n.Text = r.name()
	return n
}
