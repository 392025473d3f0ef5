package parse

import (
	"loom/api"
	"loom/lex"
)

// reader goes along the tokens of a source. Once it has failed it stands at their end: nothing begins with that, so all that reads on is done at once, and what was read counts for nothing.
type reader struct {
	tokens []api.Token
	next   int // the token that is read next
	depth  int // how deep it is nested
	failed bool
	place  int // where it failed
}

// tree: what read makes of all the tokens of src; else the place of the first one that may not be there, and why.
func tree(src string, read func(*reader) api.Node) (api.Node, int, api.Errno) {
	tokens, place, err := lex.All(src)
	if err != api.OK {
		return api.Node{}, place, err
	}
	r := reader{tokens: tokens}
	n := read(&r)
	if r.token().Kind != api.KEnd {
		r.fail()
	}
	if r.failed {
		return api.Node{}, r.place, api.ErrSyntax
	}
	return n, 0, api.OK
}

// fail: no tree begins any more with the token that is next.
func (r *reader) fail() {
	if !r.failed {
		r.failed, r.place = true, r.at()
	}
	r.next = len(r.tokens) - 1
}

func (r *reader) token() api.Token { return r.tokens[r.next] }

// text: of the token that is next. It tells signs and keywords from one another and from all else.
func (r *reader) text() string { return r.token().Text }

func (r *reader) at() int { return r.token().At }

// take: the token that is next, which isn't the end.
func (r *reader) take() api.Token {
	t := r.token()
	r.next++
	return t
}

// took: whether the token that is next is this sign or keyword, which is taken then.
func (r *reader) took(text string) bool {
	if r.text() != text {
		return false
	}
	r.next++
	return true
}

// need: this sign or keyword is next.
func (r *reader) need(text string) {
	if !r.took(text) {
		r.fail()
	}
}

// name: the name that is next.
func (r *reader) name() string {
	if r.token().Kind != api.KName {
		r.fail()
		return ""
	}
	return r.take().Text
}

// begin: a node of this kind at the token that is next, a sign or keyword, which is taken.
func (r *reader) begin(kind int) api.Node {
	return api.Node{Kind: kind, At: r.take().At}
}

// within: what read reads, one deeper from the token on that is next.
func (r *reader) within(read func() api.Node) api.Node {
	r.deepen()
	n := read()
	r.depth--
	return n
}

// deepen: the token that is next is the first one that is one deeper.
func (r *reader) deepen() {
	r.depth++
	if r.depth > api.MaxNest {
		r.fail()
	}
}
