package parse

import (
	"strings"
	"testing"
)

// refusals: rows of a source with `@` ahead of the token that is told.
func refusals(t *testing.T, rows []string, tells func(src, want string)) {
	t.Helper()
	for _, row := range rows {
		at := strings.Index(row, "@")
		if at < 0 {
			t.Fatal(row)
		}
		tells(row[:at]+row[at+1:], syntax(at))
	}
}

func TestWhatIsNoExpression(t *testing.T) {
	refusals(t, []string{
		"@", " @", "// a\n@", "@)", "@]", "@}", "@{", "@;", "@,", "@.", "@.a", "@=", "@==", "@<a", "@+a", "@*a", "@%", "@/a", " @]a", "@[1]", "@as A", "@is A", "@int", "@ints", "@ints[1]", "@void", "@class A{}", "@if(a)b", "@yield", "@return", "@extends", "@catch",
		"1 @2", "a @b", "a @1", "a @null", "a @this", "a @new A", "a @(", "a@(1)", "a @)", "a @]", "a @;", "a@;", "a @{", "a @=b", "a @,", "a @~b", "a @spawn b", "a @int", "a @class",
		"a < b @< c", "a == b @== c", "a != b @== c", "a < b @!= c", "a + b < c + d @< e", "a ==@", "a == @= b", "a < @< b", "a < @= b", "a +@", "a + @+ b", "a * @/ b", "a - @* b", "a+ @)", "-@", "- @+ a", "~@", "~ @)", "-~-@", "- @as A", "spawn@", "spawn @)", "spawn @+ a", "spawn@;",
		"a.@", "a.@5", "a.@.b", "a.@(", "a.@[0]", "a.@int", "a.@this", "a.@class", "a.b @c", "a.f(@", "a.f(@,", "a.f(@,1)", "a.f(1@", "a.f(1,@)", "a.f(1,@,2)", "a.f(1 @2)", "a.f(1@;", "a.f(1@]", "a.f(1,2@", "a.f(@int a)", "a.f()@(", "a.f() @b", "a.f(1)@)", "a.f(b@=c)",
		"a[@]", "a[@", "a[1@", "a[1@)", "a[1@,2]", "a[1]@]", "a[1 @2]", "a[@;", "a[1][@]", "a as@", "a as @int", "a as @ints", "a as @1", "a as @(A)", "a as @void", "a is@", "a is @int", "a is @this", "a is A @B", "a as A@(", "a as @as A",
		"new@", "new @1", "new @int", "new @this", "new @(A)", "new @new A", "new @[1]", "new A@(", "new A@()", "new A @B", "new ints@", "new ints @5", "new ints@(5)", "new ints[@]", "new ints[5@", "new ints[5@)", "new ints[1@,2]", "new ints @A", "new ints@.a", "new @cpx[1]",
		"(@", "(@)", "((@))", "(1@", "(1@]", "(1 @2)", "(1)@)", "(a)@(b)", "(A)@b", "(a@,b)", "(a@=b)", "(@int)a", "(a@;)", "null@(", "this@(1)", "this @this", "3i @4c", "1 @a", "5@(", "a as A@=",
	}, func(src, want string) {
		tellsExpr(t, "P19.3", src, want)
	})
}

func TestWhatIsNoStatement(t *testing.T) {
	refusals(t, []string{
		"@;", "@)", "@]", "@else", "@else a;", "@catch(A a){}", "@void f();", "@void x;", "@class A{}", "@volatile int x;", "@extends", "@=", "@.a;", "@,", "@as A;", "@+a;", "yield;@;", "{}@;", "a;@;", "{@;}", "@=a;",
		"int@;", "int@=5;", "int @5;", "int @int a;", "int a@", "int a @b;", "int a@,b;", "int a=@;", "int a=1@=2;", "int a=1@,b;", "int a@.b;", "int@[] a;", "int@.a;", "int a@(){}", "ints @ints;", "cpx @this;", "A a@(", "A a @b;", "A a@[0];", "A a@+1;", "A a=@int;", "A a@==b;", "a b @c;", "A@{}", "A@()", "A @int;", "A @1;", "A @new B;", "A@,b;",
		"a=@;", "a= @=b;", "a= @==b;", "a@,b;", "a=b@=c;", "a@", "a@)", "a @1;", "a=b @c;", "a=b@", "a.b@", "a.f()@{}", "1@", "(a@;", "a=@{}", "a+@;", "a@]", "this@{}", "this @a;", "null @a;", "new A @a;", "new A@(", "spawn a @b;",
		"if@", "if @a", "if(@)", "if(@", "if(a@", "if(a@;", "if(a@]", "if(a @b", "if(a@=b)c;", "if(@int a)b;", "if(a)@", "if(a)@;", "if(a)@)", "if(a)@else", "if(a)b @else c;", "if(a)b;else@", "if(a)b;else@;", "if(a)b;else @else c;", "if(a)b;else c;@else d;", "if(a){}@;else{}", "if@{}", "if(a)if(b)c;else d;else e;@else f;", "if(a)while(b)c;else d;@else e;",
		"while@", "while @a", "while(@)", "while(a@", "while(a@;", "while(a)@", "while(a)@;", "while(a)@else", "while(a)b;@else c;", "while@{}", "return@)", "return @return;", "return a@", "return a@=b;", "return a @b;", "return @int;", "return 1@,2;", "return@}", "throw@;", "throw@", "throw a@", "throw a@=b;", "throw @yield;", "throw (a)@(b);", "throw @{}",
		"try@", "try @yield;", "try@(", "try{}@", "try{}@yield;", "try{}@{}", "try{}catch@", "try{}catch @A", "try{}catch@{}", "try{}catch(@)", "try{}catch(@int a){}", "try{}catch(A@)", "try{}catch(A @1)", "try{}catch(A @int)", "try{}catch(A a@", "try{}catch(A a @b)", "try{}catch(A a@,", "try{}catch(A a@;", "try{}catch(A a)@", "try{}catch(A a)@;", "try{}catch(A a)@yield;", "try{}catch(A a){}@catch(B b){}", "try{}catch(A a){}@;", "try@;", "try @try{}", "@catch(A a){}",
		"sync@", "sync @a", "sync@{}", "sync(@)", "sync(@this){}", "sync(@1){}", "sync(@(a)){}", "sync(@int){}", "sync(a@", "sync(a@.b){}", "sync(a @b){}", "sync(a)@", "sync(a)@yield;", "sync(a)@;", "sync(a){}@;",
		"wait@;", "wait @a;", "wait(@);", "wait(a@;", "wait(a)@", "wait(a)@.b;", "wait(a)@{}", "notify@;", "notify(a)@+1;", "notify(@);", "notifyall@{}", "notifyall(@;", "notifyall(a@,b);", "join@;", "join @1;", "join(1)@)", "join(1)@=a;", "out@;", "out @1;", "out@=1;", "out(1@,2);", "out(1@", "out(1)@", "out(1)@out(2);", "out(@int);", "yield@(", "yield@()", "yield @a;", "yield@", "yield@}", "yield@.a",
	}, func(src, want string) {
		// Where a row ends within a statement, the block's `}` is the token that is told.
		tellsStatements(t, "P19.1", src, want)
	})
}

func TestWhatIsNoProgram(t *testing.T) {
	refusals(t, []string{
		"@x", "@1", "@;", "@}", "@{", "@extends A{}", "@int x;", "@void f(){}", "@volatile", "class@", "class @{", "class @class", "class @1", "class @int{}", "class @this{}", "class @(", "class A@", "class A@;", "class A@(", "class A @B", "class A @int", "class A @class", "class A@,", "class A extends@", "class A extends @{}", "class A extends @int{}", "class A extends @extends", "class A extends B@", "class A extends B@,C{}", "class A extends B @C{}", "class A extends B@;", "class A extends B @extends C{}", "class A{@", "class A{@;}", "class A{@class B{}}", "class A{@{}}", "class A{@yield;}", "class A{@1}", "class A{@this}", "class A{@=", "class A{}@}", "class A{}@;", "class A{} @A", "class A{}@{}", "class A{} class@", "class A{} class B@", "class A{}class B{}@x",
		"class A{int@", "class A{int@}", "class A{int@;}", "class A{int @int}", "class A{int @1}", "class A{int@(){}}", "class A{int x@", "class A{int x@}", "class A{int x@=1;}", "class A{int x@,y;}", "class A{int x @y;}", "class A{int x@{}}", "class A{int x@[];}", "class A{int x;@;}", "class A{int x;int@}", "class A{A@", "class A{A@;}", "class A{A@(){}}", "class A{A x@}", "class A{A x@.y;}", "class A{A @int;}", "class A{A x@,}",
		"class A{void@", "class A{void@;}", "class A{void@(){}}", "class A{void @int}", "class A{void x@;}", "class A{void x@}", "class A{void x@=1;}", "class A{void f @g(){}}", "class A{volatile@", "class A{volatile@}", "class A{volatile@;}", "class A{volatile @void x;}", "class A{volatile @volatile int x;}", "class A{volatile int@;}", "class A{volatile int x@(){}}", "class A{volatile int x@}", "class A{volatile int x@=1;}", "class A{volatile A x@(){}}", "class A{volatile A@;}", "class A{volatile @class}", "class A{int @volatile x;}", "class A{@extends}",
		"class A{int f(@", "class A{int f(@;", "class A{int f(a@)", "class A{int f(@,", "class A{int f(@1)", "class A{int f(@void a){}}", "class A{int f(@volatile int a){}}", "class A{int f(int@)", "class A{int f(int@,int b)", "class A{int f(int @int)", "class A{int f(int a@", "class A{int f(int a@;", "class A{int f(int a @int b)", "class A{int f(int a@=1)", "class A{int f(int a,@)", "class A{int f(int a,@,", "class A{int f(int a,@1", "class A{int f(int a,B@)", "class A{int f(A@)", "class A{int f()@", "class A{int f()@;}", "class A{int f()@}", "class A{int f()@yield;", "class A{int f()@(){}}", "class A{int f()@=1;}", "class A{int f(){@", "class A{int f(){@)", "class A{int f(){}@", "class A{int f(){}@;}", "class A{int f(){}@yield;}", "class A{int f(){}@{}}", "class A{int f(){}}@}", "class A{void f(){}x@",
	}, func(src, want string) {
		tellsProgram(t, "P19.1", src, want)
	})
}

// An expression is no program, and a program no expression.
func TestEachCallReadsItsOwn(t *testing.T) {
	for _, src := range []string{"a", "1+2", "this", "new A", "(a)", "-1", "a.f()"} {
		tellsProgram(t, "P19.1", src, syntax(0))
	}
	tellsExpr(t, "P19.3", "class A{}", syntax(0))
	tellsExpr(t, "P19.3", "{}", syntax(0))
	tellsExpr(t, "P19.3", "a;", syntax(1))
	tellsExpr(t, "P19.3", "a=1", syntax(1))
	tellsExpr(t, "P19.3", "int a", syntax(0))
	tellsProgram(t, "P19.1", "yield;", syntax(0))
}
