package parse

import (
	"strings"
	"testing"

	"loom/api"
)

const most = api.MaxNest

// openers: what makes an expression deeper, and what stands behind it.
var openers = []struct{ open, shut string }{{"(", ")"}, {"-", ""}, {"~", ""}, {"spawn ", ""}, {"a[", "]"}, {"a.f(", ")"}, {"new ints[", "]"}, {"1<(", ")"}, {"a*(", ")-1"}, {"b.c().d[", "][a]"}, {"1-a.f().g(", ",1).h()"}}

func TestExpressionsAsDeepAsMayBe(t *testing.T) {
	for _, o := range openers {
		for depth := range most + 4 {
			src := strings.Repeat(o.open, depth) + "a" + strings.Repeat(o.shut, depth)
			_, at, err := Expr(src)
			switch deep := (most + 1) * len(o.open); {
			case depth <= most && (err != api.OK || at != 0):
				t.Errorf("P19.1: %q: %v at %d", src, err, at)
			case depth > most && (err != api.ErrSyntax || at != deep):
				t.Errorf("P19.1: %q: %v at %d, not %d", src, err, at, deep)
			}
		}
		// What is shut again counts no more.
		src := strings.Repeat("("+strings.Repeat(o.open, most-1)+"a"+strings.Repeat(o.shut, most-1)+")*", 5) + "a"
		if _, at, err := Expr(src); err != api.OK {
			t.Errorf("P19.1: %q: %v at %d", src, err, at)
		}
	}
}

// Whatever the first token within is: it is told, also where nothing else may stand there.
func TestTheFirstTokenWithin(t *testing.T) {
	for _, o := range openers {
		src := strings.Repeat("(", most) + o.open
		for _, s := range []string{"", "1", "a", "(", ")", "]", "}", ";", "-", "class", "as", "else", "= =", "a.", "1 2"} {
			if s == ")" && strings.HasSuffix(src, ".f(") || s == ")" && strings.HasSuffix(src, ".g(") {
				continue
			}
			tellsExpr(t, "P19.1", src+s, syntax(len(src)))
			tellsExpr(t, "P19.1", src+"  "+s, syntax(len(src)+2))
		}
		// Ahead of that the one with which no tree begins any more.
		tellsExpr(t, "P19.1", "=="+src, syntax(0))
		tellsExpr(t, "P19.1", "a . "+src, syntax(4))
		tellsExpr(t, "P19.1", strings.Repeat("(", most-1)+"1 2 "+src, syntax(most+1))
	}
	// A call's brackets without anything in them have no token within.
	deep := strings.Repeat("(", most)
	shut := strings.Repeat(")", most)
	for _, s := range []string{"a.f()", "a.f().g().h()", "a.f ( )", "a.f()+b.g()"} {
		if _, at, err := Expr(deep + s + shut); err != api.OK {
			t.Errorf("P19.1: %q in %d brackets: %v at %d", s, most, err, at)
		}
	}
	tellsExpr(t, "P19.1", deep+"a.f(,)"+shut, syntax(most+4))
	tellsExpr(t, "P19.1", deep+"a.f(] )"+shut, syntax(most+4))
}

func TestStatementsAsDeepAsMayBe(t *testing.T) {
	for _, o := range []struct {
		open, shut string
		by         int // how much deeper
	}{
		{"{", "}", 1}, {"if(a)", "", 1}, {"if(a){", "}", 2}, {"if(a)yield;else ", "", 1}, {"if(a){}else{", "}", 2}, {"while(a)", "", 1}, {"while(a){", "}", 2},
		{"try{", "}catch(A a){}", 1}, {"try{}catch(A a){", "}", 1}, {"sync(a){", "}", 1}, {"{yield;a=b;", "yield;out(a.f());}", 1}, {"if(a.f(b))while(a[-1]){", "}", 3},
	} {
		// What stands in the method's block is one deep.
		for depth := range most {
			src := strings.Repeat(o.open, depth) + "yield;" + strings.Repeat(o.shut, depth)
			n, at, err := Program(ahead + src + "}}")
			if isDeep := 1+depth*o.by > most; isDeep != (err == api.ErrSyntax) || !isDeep && err != api.OK {
				t.Errorf("P19.1: %q: %s", src, answer(n, at-len(ahead), err))
			}
		}
		// As many of one more as are left make it as deep as may be, and one more is one too many.
		depth := (most - 1) / o.by
		left := most - 1 - depth*o.by
		src := strings.Repeat(o.open, depth) + strings.Repeat("while(a)", left)
		back := strings.Repeat(o.shut, depth) + "}}"
		for _, s := range []string{"yield;", "a=b;", "return a.f();", "if(a.f())", "while(1)", "out(a);", "throw a.f();", "int i=a;", "sync(a)", "try"} {
			all := src + s
			switch s {
			case "sync(a)", "try":
				all += "{"
			}
			switch s {
			case "if(a.f())", "while(1)", "sync(a)", "try":
				for _, first := range []string{"yield;", "}", "{}", "", ";", "catch", "else"} {
					tellsStatements(t, "P19.1", all+first+back, syntax(len(all)))
				}
				continue
			}
			if n, at, err := Program(ahead + all + back); err != api.OK {
				t.Errorf("P19.1: %q: %s", all, answer(n, at, err))
			}
		}
		for _, s := range []string{"a=-", "return (", "out(a.f(", "if(a[", "while(new ints[", "spawn ", "int i=~", "{", "throw-", "wait(("} {
			for _, first := range []string{"a", "}", "", ";", "]", "1;", "{}"} {
				tellsStatements(t, "P19.1", src+s+first+back, syntax(len(src+s)))
			}
		}
		if strings.Count(src, "else") == 0 {
			tellsStatements(t, "P19.1", src+"if(a)a;"+back, syntax(len(src)+5))
		}
	}
}

// The brackets of statements, of methods and of classes count for nothing.
func TestWhatCountsForNothing(t *testing.T) {
	deep, shut := strings.Repeat("(", most-1), strings.Repeat(")", most-1)
	for _, s := range []struct{ open, shut string }{{"if(", ")a;"}, {"if(a)a;else if(-1)a;while(", "){}"}, {"while(", ")yield;"}, {"out(", ");"}, {"wait(", ");"}, {"notify(", ");"}, {"notifyall(", ");"}, {"join(", ");"}, {"return ", ";"}, {"throw ", ";"}, {"a=", ";"}, {"", "=a;"}, {"", ";"}, {"int i=", ";"}, {"try{}catch(A a){}out(", ");"}, {"sync(a){}out(", ");"}} {
		src := ahead + s.open + deep + "a" + shut + s.shut + "}}"
		if n, at, err := Program(src); err != api.OK {
			t.Errorf("P19.1: %q: %s", src, answer(n, at, err))
		}
		open := ahead + s.open + deep + "("
		tellsProgram(t, "P19.1", open+"a)"+shut+s.shut+"}}", syntax(len(open)))
	}
	// Each class, each method begins anew.
	one := "void f(int a, B b){" + strings.Repeat("{", most-1) + strings.Repeat("}", most-1) + "}"
	if n, at, err := Program(strings.Repeat("class A{int x;"+one+one+"}", 3)); err != api.OK {
		t.Errorf("P19.1: %s", answer(n, at, err))
	}
	src := strings.Repeat("class A{int x;"+one+"}", 3) + "class A{" + one + "int f(){" + strings.Repeat("{", most)
	tellsProgram(t, "P19.1", src+strings.Repeat("}", most+2), syntax(len(src)))
}
