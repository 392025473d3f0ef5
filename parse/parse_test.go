package parse

import (
	"fmt"
	"math"
	"strings"
	"testing"

	"loom/api"
)

// kindNames: by kind.
var kindNames = strings.Fields("- program class field method param type block var assign if while return throw try sync wait notify notifyall yield join out expr int cplx null this name get call index new newarr spawn bin un cast is")

// say tells a tree: of each node its kind, @ its place, what else it has, its children in brackets.
func say(n api.Node) string {
	var s strings.Builder
	sayTo(&s, n)
	return s.String()
}

func sayTo(s *strings.Builder, n api.Node) {
	if n.Kind < 0 || n.Kind >= len(kindNames) {
		fmt.Fprintf(s, "%d", n.Kind)
	} else {
		s.WriteString(kindNames[n.Kind])
	}
	fmt.Fprintf(s, "@%d", n.At)
	if n.Text != "" {
		s.WriteString(" " + n.Text)
	}
	if n.Int != 0 {
		fmt.Fprintf(s, " #%d", n.Int)
	}
	if bits(n.Cplx) != bits(0) {
		fmt.Fprintf(s, " %v", n.Cplx)
	}
	if len(n.Kids) == 0 {
		return
	}
	s.WriteString(" (")
	for i, kid := range n.Kids {
		if i > 0 {
			s.WriteString(", ")
		}
		sayTo(s, kid)
	}
	s.WriteString(")")
}

func bits(c complex128) [2]uint64 {
	return [2]uint64{math.Float64bits(real(c)), math.Float64bits(imag(c))}
}

func short(s string) string {
	if len(s) > 300 {
		return s[:300] + " .."
	}
	return s
}

// answer: of one call, as a text.
func answer(n api.Node, at int, err api.Errno) string {
	if err == api.OK {
		if at != 0 {
			return fmt.Sprintf("a place, %d, beside %s", at, say(n))
		}
		return say(n)
	}
	if say(n) != "-@0" {
		return fmt.Sprintf("a tree, %s, beside %v", say(n), err)
	}
	return fmt.Sprintf("%d at %d", int(err), at)
}

func syntax(at int) string { return fmt.Sprintf("190 at %d", at) }

func tellsExpr(t testing.TB, promise, src, want string) {
	t.Helper()
	if got := answer(Expr(src)); got != want {
		t.Errorf("%s: Expr(%q): %s, not %s", promise, short(src), short(got), short(want))
	}
}

func tellsProgram(t testing.TB, promise, src, want string) {
	t.Helper()
	if got := answer(Program(src)); got != want {
		t.Errorf("%s: Program(%q): %s, not %s", promise, short(src), short(got), short(want))
	}
}

// ahead: a source up to where a method's first statement stands.
const ahead = "class A{void f(){"

// tellsStatements: of the statements of a method's block; want is told with places from the block's first byte on.
func tellsStatements(t testing.TB, promise, src, want string) {
	t.Helper()
	n, at, err := Program(ahead + src + "}}")
	if err == api.OK {
		block := n.Kids[0].Kids[1].Kids[1]
		var told []string
		for _, kid := range block.Kids {
			told = append(told, say(moved(kid, -len(ahead))))
		}
		if got := strings.Join(told, "; "); got != want {
			t.Errorf("%s: %q: %s, not %s", promise, src, got, want)
		}
		return
	}
	if got := answer(n, at-len(ahead), err); got != want {
		t.Errorf("%s: %q: %s, not %s", promise, src, got, want)
	}
}

// moved: n with all places so much further on.
func moved(n api.Node, by int) api.Node {
	n.At += by
	kids := n.Kids
	n.Kids = nil
	for _, kid := range kids {
		n.Kids = append(n.Kids, moved(kid, by))
	}
	return n
}

func TestTheExample(t *testing.T) {
	tellsExpr(t, "P19.1", "1 + 2 * 3", "bin@2 + (int@0 #1, bin@6 * (int@4 #2, int@8 #3))")
}

func TestLeaves(t *testing.T) {
	for src, want := range map[string]string{
		"0": "int@0", "7": "int@0 #7", " 007": "int@1 #7", "999999999999999999": "int@0 #999999999999999999",
		"0c": "cplx@0", "0i": "cplx@0", "3c": "cplx@0 (3+0i)", " 3i ": "cplx@1 (0+3i)", "999999999999999i": "cplx@0 (0+9.99999999999999e+14i)",
		"null": "null@0", "\tthis": "this@1", "a": "name@0 a", "// x\nlen": "name@5 len", "$_9": "name@0 $_9", "new A": "new@0 A", "new\nlen//": "new@0 len",
		"(a)": "name@1 a", "( ( 7 ) )": "int@4 #7", "((null))": "null@2", "(new A)": "new@1 A",
	} {
		tellsExpr(t, "P19.2", src, want)
	}
}

func TestExpressions(t *testing.T) {
	for src, want := range map[string]string{
		"new ints[5]":                 "newarr@0 (int@9 #5)",
		"new ints [ new ints[1][2] ]": "newarr@0 (index@22 (newarr@11 (int@20 #1), int@23 #2))",
		"spawn a":                     "spawn@0 (name@6 a)",
		"spawn a.f()":                 "spawn@0 (call@7 f (name@6 a))",
		"(spawn a).f":                 "get@9 f (spawn@1 (name@7 a))",
		"spawn a as B is C[1]":        "spawn@0 (index@17 (is@13 C (cast@8 B (name@6 a)), int@18 #1))",
		"spawn -spawn a":              "spawn@0 (un@6 - (spawn@7 (name@13 a)))",
		"-a":                          "un@0 - (name@1 a)",
		"~ -1":                        "un@0 ~ (un@2 - (int@3 #1))",
		"--a":                         "un@0 - (un@1 - (name@2 a))",
		"-a.b":                        "un@0 - (get@2 b (name@1 a))",
		"-a as B":                     "un@0 - (cast@3 B (name@1 a))",
		"(-a)as B":                    "cast@4 B (un@1 - (name@2 a))",
		"-a*-b":                       "bin@2 * (un@0 - (name@1 a), un@3 - (name@4 b))",
		"a.b":                         "get@1 b (name@0 a)",
		"a . b . c":                   "get@6 c (get@2 b (name@0 a))",
		"5.a":                         "get@1 a (int@0 #5)",
		"null.f()":                    "call@4 f (null@0)",
		"a.f(1)":                      "call@1 f (name@0 a, int@4 #1)",
		"a.f(1, b ,3i)":               "call@1 f (name@0 a, int@4 #1, name@7 b, cplx@10 (0+3i))",
		"a.f((1),a.g(2,3))":           "call@1 f (name@0 a, int@5 #1, call@9 g (name@8 a, int@12 #2, int@14 #3))",
		"a.f()()":                     syntax(5),
		"a.f().g()[0]":                "index@9 (call@5 g (call@1 f (name@0 a)), int@10)",
		"a[b[c]]":                     "index@1 (name@0 a, index@3 (name@2 b, name@4 c))",
		"a[1][2]":                     "index@4 (index@1 (name@0 a, int@2 #1), int@5 #2)",
		"a as B as C":                 "cast@7 C (cast@2 B (name@0 a))",
		"a is B is C":                 "is@7 C (is@2 B (name@0 a))",
		"new A as B . b":              "get@11 b (cast@6 B (new@0 A))",
		"new A.f()":                   "call@5 f (new@0 A)",
		"a-b-c":                       "bin@3 - (bin@1 - (name@0 a, name@2 b), name@4 c)",
		"a-(b-c)":                     "bin@1 - (name@0 a, bin@4 - (name@3 b, name@5 c))",
		"a*b/c%d":                     "bin@5 % (bin@3 / (bin@1 * (name@0 a, name@2 b), name@4 c), name@6 d)",
		"a+b*c-d":                     "bin@5 - (bin@1 + (name@0 a, bin@3 * (name@2 b, name@4 c)), name@6 d)",
		"a%b+c":                       "bin@3 + (bin@1 % (name@0 a, name@2 b), name@4 c)",
		"(a+b)*c":                     "bin@5 * (bin@2 + (name@1 a, name@3 b), name@6 c)",
		"a+b<c*d":                     "bin@3 < (bin@1 + (name@0 a, name@2 b), bin@5 * (name@4 c, name@6 d))",
		"a==b":                        "bin@1 == (name@0 a, name@3 b)",
		"a!=-b":                       "bin@1 != (name@0 a, un@3 - (name@4 b))",
		"(a<b)<c":                     "bin@5 < (bin@2 < (name@1 a, name@3 b), name@6 c)",
		"a==(b!=c)":                   "bin@1 == (name@0 a, bin@5 != (name@4 b, name@7 c))",
		"a - -b":                      "bin@2 - (name@0 a, un@4 - (name@5 b))",
		"a//+b\n-c":                   "bin@6 - (name@0 a, name@7 c)",
	} {
		tellsExpr(t, "P19.2", src, want)
	}
}

func TestStatements(t *testing.T) {
	for src, want := range map[string]string{
		"":                                       "",
		"{}":                                     "block@0",
		"{{}{yield;}}":                           "block@0 (block@1, block@3 (yield@4))",
		"int i;":                                 "var@0 i (type@0 int)",
		"cpx c=3i;":                              "var@0 c (type@0 cpx, cplx@6 (0+3i))",
		"ints l = new ints[2];":                  "var@0 l (type@0 ints, newarr@9 (int@18 #2))",
		"A a;":                                   "var@0 a (type@0 A)",
		" A a = null ;":                          "var@1 a (type@1 A, null@7)",
		"a=b;":                                   "assign@1 (name@0 a, name@2 b)",
		"a.b[1] = c < d;":                        "assign@7 (index@3 (get@1 b (name@0 a), int@4 #1), bin@11 < (name@9 c, name@13 d))",
		"1+2=3;":                                 "assign@3 (bin@1 + (int@0 #1, int@2 #2), int@4 #3)",
		"if(a)yield;":                            "if@0 (name@3 a, yield@5)",
		"if(a)b;else c;":                         "if@0 (name@3 a, expr@5 (name@5 b), expr@12 (name@12 c))",
		"if(a)int i;else{}":                      "if@0 (name@3 a, var@5 i (type@5 int), block@15)",
		"if(a)if(b)yield;else yield;":            "if@0 (name@3 a, if@5 (name@8 b, yield@10, yield@21))",
		"if(a)if(b)yield;else yield;else{}":      "if@0 (name@3 a, if@5 (name@8 b, yield@10, yield@21), block@31)",
		"if(a){if(b)yield;}else yield;":          "if@0 (name@3 a, block@5 (if@6 (name@9 b, yield@11)), yield@23)",
		"if(a)while(b)if(c)yield;else yield;":    "if@0 (name@3 a, while@5 (name@11 b, if@13 (name@16 c, yield@18, yield@29)))",
		"if(a)yield;else if(b)yield;else yield;": "if@0 (name@3 a, yield@5, if@16 (name@19 b, yield@21, yield@32))",
		"while(1)a.f();":                         "while@0 (int@6 #1, expr@9 (call@9 f (name@8 a)))",
		"return;":                                "return@0",
		"return a;":                              "return@0 (name@7 a)",
		"return (a);":                            "return@0 (name@8 a)",
		"throw new A;":                           "throw@0 (new@6 A)",
		"try{}catch(A a){}":                      "try@0 a (block@3, type@11 A, block@15)",
		"try{yield;}catch(A b){return;}":         "try@0 b (block@3 (yield@4), type@17 A, block@21 (return@22))",
		"sync(a){}":                              "sync@0 a (block@7)",
		"sync ( a ) { yield; }":                  "sync@0 a (block@11 (yield@13))",
		"wait(a);":                               "wait@0 (name@5 a)",
		"notify(a);":                             "notify@0 (name@7 a)",
		"notifyall(this);":                       "notifyall@0 (this@10)",
		"join(1);":                               "join@0 (int@5 #1)",
		"out((1));":                              "out@0 (int@5 #1)",
		"yield;":                                 "yield@0",
		"a;":                                     "expr@0 (name@0 a)",
		"(a);":                                   "expr@1 (name@1 a)",
		"a.f();":                                 "expr@1 (call@1 f (name@0 a))",
		"a+b;":                                   "expr@1 (bin@1 + (name@0 a, name@2 b))",
		"-a;":                                    "expr@0 (un@0 - (name@1 a))",
		"spawn a.f();":                           "expr@0 (spawn@0 (call@7 f (name@6 a)))",
		"new A;":                                 "expr@0 (new@0 A)",
		"a is B;":                                "expr@2 (is@2 B (name@0 a))",
		"a as B b;":                              syntax(7),
		"A a;a=null;":                            "var@0 a (type@0 A); assign@5 (name@4 a, null@6)",
		"yield;{}yield;":                         "yield@0; block@6; yield@8",
	} {
		tellsStatements(t, "P19.2", src, want)
	}
}

func TestPrograms(t *testing.T) {
	for src, want := range map[string]string{
		"":                              "program@0",
		" \n":                           "program@2",
		"// none":                       "program@7",
		"class A{}":                     "program@0 (class@0 A (type@0))",
		"  class A extends B { } ":      "program@2 (class@2 A (type@18 B))",
		"class A{}class B{}":            "program@0 (class@0 A (type@0), class@9 B (type@9))",
		"class A{int x;}":               "program@0 (class@0 A (type@0, field@8 x (type@8 int)))",
		"class A{volatile A x;ints y;}": "program@0 (class@0 A (type@0, field@8 x #1 (type@17 A), field@21 y (type@21 ints)))",
		"class A{volatile cpx len;}":    "program@0 (class@0 A (type@0, field@8 len #1 (type@17 cpx)))",
		"class A{void f(){}}":           "program@0 (class@0 A (type@0, method@8 f (type@8 void, block@16)))",
		"class A{ A f ( int a , B b ) { } int f;}":                    "program@0 (class@0 A (type@0, method@9 f (type@9 A, param@15 a (type@15 int), param@23 b (type@23 B), block@29), field@33 f (type@33 int)))",
		"class A{ints f(ints a){return a;}}":                          "program@0 (class@0 A (type@0, method@8 f (type@8 ints, param@15 a (type@15 ints), block@22 (return@23 (name@30 a)))))",
		"class A{cpx f(cpx a,cpx a,cpx a,cpx a,cpx a,cpx a,cpx a){}}": "program@0 (class@0 A (type@0, method@8 f (type@8 cpx, param@14 a (type@14 cpx), param@20 a (type@20 cpx), param@26 a (type@26 cpx), param@32 a (type@32 cpx), param@38 a (type@38 cpx), param@44 a (type@44 cpx), param@50 a (type@50 cpx), block@56)))",
	} {
		tellsProgram(t, "P19.2", src, want)
	}
}

// What lex refuses is told as lex does, wherever it stands: also behind what no tree begins with.
func TestTheErrorsOfTokens(t *testing.T) {
	long := strings.Repeat("a", 21)
	for src, want := range map[string]string{
		"#": "180 at 0", "a #": "180 at 2", "1 2 3 #": "180 at 6", ") 5x": "180 at 2", "class class !": "180 at 12",
		long: "32 at 0", "1 + " + long: "32 at 4", "; " + strings.Repeat("1", 19): "32 at 2",
		strings.Repeat(" ", 8001): "32 at 0", strings.Repeat("a", 8001): "32 at 0", "# " + strings.Repeat(")", 8000): "32 at 0",
	} {
		tellsExpr(t, "P19.3", src, want)
		tellsProgram(t, "P19.1", src, want)
	}
}
