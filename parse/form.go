package parse

import (
	"slices"

	"loom/api"
	"loom/lex"
)

// form: what the nodes of a kind have: of what sort their Text is, a letter of isText (0: they have none), and their children, in pairs of a letter of isOfSort and how many of these there are: 1, ? (one or none), * (any number).
type form struct {
	text byte
	kids string
}

// forms: by kind. The Text of an NType hangs on whose child it is, and is looked at with that one.
var forms = [...]form{
	api.NProgram:   {0, "c*"},
	api.NClass:     {'n', "a1m*"},
	api.NField:     {'n', "t1"},
	api.NMethod:    {'n', "r1p*b1"},
	api.NParam:     {'n', "t1"},
	api.NType:      {'*', ""},
	api.NBlock:     {0, "s*"},
	api.NVar:       {'n', "t1e?"},
	api.NAssign:    {0, "e1e1"},
	api.NIf:        {0, "e1s1s?"},
	api.NWhile:     {0, "e1s1"},
	api.NReturn:    {0, "e?"},
	api.NThrow:     {0, "e1"},
	api.NTry:       {'n', "b1n1b1"},
	api.NSync:      {'n', "b1"},
	api.NWait:      {0, "e1"},
	api.NNotify:    {0, "e1"},
	api.NNotifyAll: {0, "e1"},
	api.NYield:     {0, ""},
	api.NJoin:      {0, "e1"},
	api.NOut:       {0, "e1"},
	api.NExpr:      {0, "e1"},
	api.NInt:       {0, ""},
	api.NCplx:      {0, ""},
	api.NNull:      {0, ""},
	api.NThis:      {0, ""},
	api.NName:      {'n', ""},
	api.NGet:       {'n', "e1"},
	api.NCall:      {'n', "e1e*"},
	api.NIndex:     {0, "e1e1"},
	api.NNew:       {'n', ""},
	api.NNewArr:    {0, "e1"},
	api.NSpawn:     {0, "e1"},
	api.NBin:       {'+', "e1e1"},
	api.NUn:        {'-', "e1"},
	api.NCast:      {'n', "e1"},
	api.NIs:        {'n', "e1"},
}

// isTree: whether n, but for its places, is one that Program or Expr tells, were a source as long and nested as deep as may be.
func isTree(n api.Node) bool {
	return (n.Kind == api.NProgram || isOfSort(n, 'e')) && isFormed(n)
}

// isFormed: whether n, which is of one of the kinds, and all within it have their forms.
func isFormed(n api.Node) bool {
	f := forms[n.Kind]
	return isText(n.Text, f.text) && hasItsNumbers(n) && areFormed(n.Kids, f.kids) && hasItsElse(n)
}

// areFormed: whether list is of these sorts, each of it with its form.
func areFormed(list []api.Node, sorts string) bool {
along:
	if sorts == "" {
		return len(list) == 0
	}
	isThere := len(list) > 0 && isOfSort(list[0], sorts[0])
	switch times := sorts[1]; {
	case isThere && !isFormed(list[0]), !isThere && times == '1':
		return false
	case isThere && times == '*':
		list = list[1:]
		goto along
	case isThere:
		list = list[1:]
	}
	sorts = sorts[2:]
	goto along
}

// isOfSort: whether the kind of n, and what an NType names, is of this sort.
func isOfSort(n api.Node, sort byte) bool {
	switch sort {
	case 'c':
		return n.Kind == api.NClass
	case 'm':
		return n.Kind == api.NField || n.Kind == api.NMethod
	case 'p':
		return n.Kind == api.NParam
	case 'b':
		return n.Kind == api.NBlock
	case 's':
		return n.Kind >= api.NBlock && n.Kind <= api.NExpr
	case 'e':
		return n.Kind >= api.NInt && n.Kind <= api.NIs
	}
	return n.Kind == api.NType && isText(n.Text, sort)
}

// isText: whether s is of this sort: none, a class's name or none, a type, a result's type, the sign of an NBin, of an NUn, anything; else a name.
func isText(s string, sort byte) bool {
	switch sort {
	case 0:
		return s == ""
	case 'a':
		return s == "" || isName(s)
	case 't':
		return s == "int" || s == "cpx" || s == "ints" || isName(s)
	case 'r':
		return s == "void" || isText(s, 't')
	case '+':
		return slices.Contains([]string{"<", "==", "!=", "+", "-", "*", "/", "%"}, s)
	case '-':
		return s == "-" || s == "~"
	case '*':
		return true
	}
	return isName(s)
}

func isName(s string) bool { return onlyToken(s).Kind == api.KName }

// onlyToken: the token that s is from its first byte to its last, which of nothing is the end; the zero one, if it is none.
func onlyToken(s string) api.Token {
	l, _, err := lex.All(s)
	if err != api.OK || l[0].Text != s {
		return api.Token{}
	}
	return l[0]
}

// hasItsNumbers: whether Int and Cplx are what n's kind may have: numbers that a token has, or 0.
func hasItsNumbers(n api.Node) bool {
	var t api.Token
	switch n.Kind {
	case api.NField:
		t.Int = n.Int & 1
	case api.NInt, api.NCplx:
		t = onlyToken(number(n))
	}
	return n.Int == t.Int && sameBits(n.Cplx, t.Cplx)
}

// hasItsElse: whether the else of n, if it has one, isn't taken by an if within the statement ahead of it.
func hasItsElse(n api.Node) bool {
	if n.Kind != api.NIf || len(n.Kids) == 2 {
		return true
	}
	last := n.Kids[1]
inward:
	switch {
	case last.Kind == api.NIf && len(last.Kids) == 2:
		return false
	case last.Kind == api.NIf || last.Kind == api.NWhile:
		last = last.Kids[len(last.Kids)-1]
		goto inward
	}
	return true
}
