package syntax

import (
	"fmt"
	"math/rand"
	"strings"
	"testing"

	"warmpath/api"
)

// The shapes of expressions, with their lines ahead.

func number(line, n int) api.Expr {
	return api.Expr{Kind: api.ExprNumber, Line: line, Value: n}
}

func name(line int, s string) api.Expr {
	return api.Expr{Kind: api.ExprName, Line: line, Name: s}
}

func element(line int, s string, index api.Expr) api.Expr {
	return api.Expr{Kind: api.ExprElement, Line: line, Name: s, Args: []api.Expr{index}}
}

func function(line int, s string) api.Expr {
	return api.Expr{Kind: api.ExprFunc, Line: line, Name: s}
}

func read(line int) api.Expr { return api.Expr{Kind: api.ExprRead, Line: line} }

func unary(line, op int, x api.Expr) api.Expr {
	return api.Expr{Kind: api.ExprUnary, Op: op, Line: line, Args: []api.Expr{x}}
}

func operation(line, op int, x, y api.Expr) api.Expr {
	return api.Expr{Kind: api.ExprBinary, Op: op, Line: line, Args: []api.Expr{x, y}}
}

func both(line int, x, y api.Expr) api.Expr {
	return api.Expr{Kind: api.ExprAnd, Line: line, Args: []api.Expr{x, y}}
}

func either(line int, x, y api.Expr) api.Expr {
	return api.Expr{Kind: api.ExprOr, Line: line, Args: []api.Expr{x, y}}
}

func call(line int, s string, args ...api.Expr) api.Expr {
	return api.Expr{Kind: api.ExprCall, Line: line, Name: s, Args: args}
}

func callOf(line int, x api.Expr, args ...api.Expr) api.Expr {
	return api.Expr{Kind: api.ExprValue, Line: line, Args: append([]api.Expr{x}, args...)}
}

// isExpr checks that a text is this expression. Trees are compared as texts, in which a nil slice is an empty one.
func isExpr(t *testing.T, text string, want api.Expr) {
	t.Helper()
	x, line, e := ParseExpr(text)
	if fmt.Sprint(x) != fmt.Sprint(want) || line != 0 || e != api.OK {
		t.Errorf("%.200q: %.500v, %d, %d, not %.500v", text, x, line, e, want)
	}
}

// isSource checks that a text is this program.
func isSource(t *testing.T, text string, want api.Source) {
	t.Helper()
	p, line, e := Parse(text)
	if fmt.Sprint(p) != fmt.Sprint(want) || line != 0 || e != api.OK {
		t.Errorf("%.200q: %.500v, %d, %d, not %.500v", text, p, line, e, want)
	}
}

// isBody checks that a text, from line 2 on, is the statements of a function.
func isBody(t *testing.T, text string, want ...api.Stmt) {
	t.Helper()
	isSource(t, "func f() {\n"+text+"}", api.Source{Funcs: []api.Func{{Name: "f", Line: 1, Body: want}}})
}

// refused checks that a text is no program, and where and why.
func refused(t *testing.T, text string, want int, why api.Errno) {
	t.Helper()
	p, line, e := Parse(text)
	if fmt.Sprint(p) != fmt.Sprint(api.Source{}) || line != want || e != why {
		t.Errorf("%.200q: %.200v, %d, %d, not %d, %d", text, p, line, e, want, why)
	}
}

// refusedExpr checks that a text is no expression, and where and why.
func refusedExpr(t *testing.T, text string, want int, why api.Errno) {
	t.Helper()
	x, line, e := ParseExpr(text)
	if fmt.Sprint(x) != fmt.Sprint(api.Expr{}) || line != want || e != why {
		t.Errorf("%.200q: %.200v, %d, %d, not %d, %d", text, x, line, e, want, why)
	}
}

func TestExprWithoutOperators(t *testing.T) {
	isExpr(t, "0", number(1, 0))
	isExpr(t, "9223372036854775807", number(1, 1<<63-1))
	isExpr(t, "x", name(1, "x"))
	isExpr(t, "reader", name(1, "reader"))
	isExpr(t, "read", read(1))
	isExpr(t, "&f", function(1, "f"))
	isExpr(t, "& f", function(1, "f"))
	isExpr(t, "a[1]", element(1, "a", number(1, 1)))
	isExpr(t, "a[a[x]]", element(1, "a", element(1, "a", name(1, "x"))))
	isExpr(t, "((x))", name(1, "x"))
	isExpr(t, "(a[(1)])", element(1, "a", number(1, 1)))
}

func TestExprOfEachOperator(t *testing.T) {
	for sign, op := range map[string]int{"+": api.OpAdd, "-": api.OpSubtract, "*": api.OpMultiply, "/": api.OpDivide, "%": api.OpModulo, "<": api.OpLess, "<=": api.OpAtMost, "==": api.OpEqual, "!=": api.OpUnequal} {
		isExpr(t, "1"+sign+"x", operation(1, op, number(1, 1), name(1, "x")))
	}
	isExpr(t, "1&&x", both(1, number(1, 1), name(1, "x")))
	isExpr(t, "1||x", either(1, number(1, 1), name(1, "x")))
	isExpr(t, "-x", unary(1, api.OpNegate, name(1, "x")))
	isExpr(t, "!x", unary(1, api.OpNot, name(1, "x")))
	isExpr(t, "!-!x", unary(1, api.OpNot, unary(1, api.OpNegate, unary(1, api.OpNot, name(1, "x")))))
	isExpr(t, "-1", unary(1, api.OpNegate, number(1, 1)))
	isExpr(t, "a - -1", operation(1, api.OpSubtract, name(1, "a"), unary(1, api.OpNegate, number(1, 1))))
	isExpr(t, "a&&&b", both(1, name(1, "a"), function(1, "b")))
	isExpr(t, "a!=!b", operation(1, api.OpUnequal, name(1, "a"), unary(1, api.OpNot, name(1, "b"))))
}

func TestExprGroups(t *testing.T) {
	a, b, c := name(1, "a"), name(1, "b"), name(1, "c")
	add := func(x, y api.Expr) api.Expr { return operation(1, api.OpAdd, x, y) }
	times := func(x, y api.Expr) api.Expr { return operation(1, api.OpMultiply, x, y) }
	less := func(x, y api.Expr) api.Expr { return operation(1, api.OpLess, x, y) }
	isExpr(t, "1 + 2 * 3", add(number(1, 1), times(number(1, 2), number(1, 3))))
	isExpr(t, "a*b+c", add(times(a, b), c))
	isExpr(t, "(a+b)*c", times(add(a, b), c))
	isExpr(t, "a*(b+c)", times(a, add(b, c)))
	isExpr(t, "a-b+c", add(operation(1, api.OpSubtract, a, b), c))
	isExpr(t, "a-(b+c)", operation(1, api.OpSubtract, a, add(b, c)))
	isExpr(t, "a/b*c", times(operation(1, api.OpDivide, a, b), c))
	isExpr(t, "a/b%c", operation(1, api.OpModulo, operation(1, api.OpDivide, a, b), c))
	isExpr(t, "a+b+c+a", add(add(add(a, b), c), a))
	isExpr(t, "a<b+c", less(a, add(b, c)))
	isExpr(t, "a+b<c", less(add(a, b), c))
	isExpr(t, "(a<b)<c", less(less(a, b), c))
	isExpr(t, "a<(b<c)", less(a, less(b, c)))
	isExpr(t, "a<b&&b<c", both(1, less(a, b), less(b, c)))
	isExpr(t, "a&&b&&c", both(1, both(1, a, b), c))
	isExpr(t, "a||b||c", either(1, either(1, a, b), c))
	isExpr(t, "a||b&&c", either(1, a, both(1, b, c)))
	isExpr(t, "a&&b||c", either(1, both(1, a, b), c))
	isExpr(t, "a&&(b||c)", both(1, a, either(1, b, c)))
	isExpr(t, "-a*b", times(unary(1, api.OpNegate, a), b))
	isExpr(t, "-(a*b)", unary(1, api.OpNegate, times(a, b)))
	isExpr(t, "!a<b", less(unary(1, api.OpNot, a), b))
}

func TestCalls(t *testing.T) {
	f, one, two := name(1, "f"), number(1, 1), number(1, 2)
	isExpr(t, "f()", call(1, "f"))
	isExpr(t, "f(1)", call(1, "f", one))
	isExpr(t, "f(1,2,1+2)", call(1, "f", one, two, operation(1, api.OpAdd, one, two)))
	isExpr(t, "f(f(1),f())", call(1, "f", call(1, "f", one), call(1, "f")))
	isExpr(t, "f(1)(2)", callOf(1, call(1, "f", one), two))
	isExpr(t, "f()()(1)", callOf(1, callOf(1, call(1, "f")), one))
	isExpr(t, "(f)(1)", callOf(1, f, one))
	isExpr(t, "((f))()", callOf(1, f))
	isExpr(t, "(f(1))(2)", callOf(1, call(1, "f", one), two))
	isExpr(t, "(f)(1)(2)", callOf(1, callOf(1, f, one), two))
	isExpr(t, "a[1](2)", callOf(1, element(1, "a", one), two))
	isExpr(t, "(a[1])(2)", callOf(1, element(1, "a", one), two))
	isExpr(t, "&f(1)", callOf(1, function(1, "f"), one))
	isExpr(t, "(&f)(1)", callOf(1, function(1, "f"), one))
	isExpr(t, "read()", callOf(1, read(1)))
	isExpr(t, "1(2)", callOf(1, one, two))
	isExpr(t, "(1+2)(1)", callOf(1, operation(1, api.OpAdd, one, two), one))
	isExpr(t, "-f(1)", unary(1, api.OpNegate, call(1, "f", one)))
	isExpr(t, "(-f)(1)", callOf(1, unary(1, api.OpNegate, f), one))
	isExpr(t, "-(f)(1)", unary(1, api.OpNegate, callOf(1, f, one)))
	isExpr(t, "f((f)(1))", call(1, "f", callOf(1, f, one)))
}

func TestLinesOfExprs(t *testing.T) {
	a, b := name(1, "a"), name(3, "b")
	for sign, op := range map[string]int{"+": api.OpAdd, "-": api.OpSubtract, "*": api.OpMultiply, "/": api.OpDivide, "%": api.OpModulo, "<": api.OpLess, "<=": api.OpAtMost, "==": api.OpEqual, "!=": api.OpUnequal} {
		isExpr(t, "a\n"+sign+"\nb", operation(2, op, a, b))
	}
	isExpr(t, "a\n&&\nb", both(2, a, b))
	isExpr(t, "a\n||\nb", either(2, a, b))
	isExpr(t, "\n-\na", unary(2, api.OpNegate, name(3, "a")))
	isExpr(t, "\n!\na", unary(2, api.OpNot, name(3, "a")))
	isExpr(t, "\n-(\na\n*\nb)", unary(2, api.OpNegate, operation(4, api.OpMultiply, name(3, "a"), name(5, "b"))))
	isExpr(t, "\n7\n", number(2, 7))
	isExpr(t, "\n&\nf", function(2, "f"))
	isExpr(t, "\nread", read(2))
	isExpr(t, "a\n[\n1\n]", element(1, "a", number(3, 1)))
	isExpr(t, "f\n(\n1\n,\n2\n)", call(2, "f", number(3, 1), number(5, 2)))
	isExpr(t, "f\n(\n)\n(\n1)", callOf(4, call(2, "f"), number(5, 1)))
	isExpr(t, "(\nf\n)\n(\n)", callOf(4, name(2, "f")))
	isExpr(t, "(\nx\n)", name(2, "x"))
	isExpr(t, "a\n+\nb\n+\nc", operation(4, api.OpAdd, operation(2, api.OpAdd, a, b), name(5, "c")))
}

func TestStatements(t *testing.T) {
	x, y := name(2, "x"), name(2, "y")
	isBody(t, "")
	isBody(t, "var x=y;", api.Stmt{Kind: api.StmtVar, Line: 2, Name: "x", Exprs: []api.Expr{y}})
	isBody(t, "x=y;", api.Stmt{Kind: api.StmtAssign, Line: 2, Name: "x", Exprs: []api.Expr{y}})
	isBody(t, "a[x]=y;", api.Stmt{Kind: api.StmtStore, Line: 2, Name: "a", Exprs: []api.Expr{x, y}})
	isBody(t, "return x;", api.Stmt{Kind: api.StmtReturn, Line: 2, Exprs: []api.Expr{x}})
	isBody(t, "print x;", api.Stmt{Kind: api.StmtPrint, Line: 2, Exprs: []api.Expr{x}})
	isBody(t, "call x;", api.Stmt{Kind: api.StmtExpr, Line: 2, Exprs: []api.Expr{x}})
	isBody(t, "call x();", api.Stmt{Kind: api.StmtExpr, Line: 2, Exprs: []api.Expr{call(2, "x")}})
	isBody(t, "while x{}", api.Stmt{Kind: api.StmtWhile, Line: 2, Exprs: []api.Expr{x}})
	isBody(t, "if x{}", api.Stmt{Kind: api.StmtIf, Line: 2, Exprs: []api.Expr{x}})
	isBody(t, "if x{}else{}", api.Stmt{Kind: api.StmtIf, Line: 2, Exprs: []api.Expr{x}})
	isBody(t, "if(x){}", api.Stmt{Kind: api.StmtIf, Line: 2, Exprs: []api.Expr{x}})
}

func TestBlocks(t *testing.T) {
	print := func(line, n int) api.Stmt {
		return api.Stmt{Kind: api.StmtPrint, Line: line, Exprs: []api.Expr{number(line, n)}}
	}
	x := []api.Expr{name(2, "x")}
	isBody(t, "print 1;\nprint 2;print 3;", print(2, 1), print(3, 2), print(3, 3))
	isBody(t, "while x {\nprint 1; print 2;\n}\nprint 3;",
		api.Stmt{Kind: api.StmtWhile, Line: 2, Exprs: x, Then: []api.Stmt{print(3, 1), print(3, 2)}}, print(5, 3))
	isBody(t, "if x {\nprint 1; print 2;\n} else {\nprint 3;\nprint 4;\n}\nprint 5;",
		api.Stmt{Kind: api.StmtIf, Line: 2, Exprs: x, Then: []api.Stmt{print(3, 1), print(3, 2)}, Else: []api.Stmt{print(5, 3), print(6, 4)}}, print(8, 5))
	isBody(t, "if x {\nif\nx { print 1; } else { print 2; } }",
		api.Stmt{Kind: api.StmtIf, Line: 2, Exprs: x, Then: []api.Stmt{
			{Kind: api.StmtIf, Line: 3, Exprs: []api.Expr{name(4, "x")}, Then: []api.Stmt{print(4, 1)}, Else: []api.Stmt{print(4, 2)}}}})
	isBody(t, "if x { } else { while\nx { if x { } } }",
		api.Stmt{Kind: api.StmtIf, Line: 2, Exprs: x, Else: []api.Stmt{
			{Kind: api.StmtWhile, Line: 2, Exprs: []api.Expr{name(3, "x")}, Then: []api.Stmt{{Kind: api.StmtIf, Line: 3, Exprs: []api.Expr{name(3, "x")}}}}}})
}

func TestLinesOfStatements(t *testing.T) {
	one := []api.Expr{number(5, 1)}
	isBody(t, "var\nx\n=\n1\n;", api.Stmt{Kind: api.StmtVar, Line: 2, Name: "x", Exprs: one})
	isBody(t, "\nx\n=\n1\n;", api.Stmt{Kind: api.StmtAssign, Line: 3, Name: "x", Exprs: one})
	isBody(t, "a\n[\n\n1\n]\n=\n2\n;", api.Stmt{Kind: api.StmtStore, Line: 2, Name: "a", Exprs: append(one, number(8, 2))})
	isBody(t, "\n#\nreturn 1;", api.Stmt{Kind: api.StmtReturn, Line: 4, Exprs: []api.Expr{number(4, 1)}})
	isBody(t, "print\n\n\n1;", api.Stmt{Kind: api.StmtPrint, Line: 2, Exprs: one})
	isBody(t, "call\n\n\n1;", api.Stmt{Kind: api.StmtExpr, Line: 2, Exprs: one})
	isBody(t, "while\n\n\n1\n{\n}", api.Stmt{Kind: api.StmtWhile, Line: 2, Exprs: one})
	isBody(t, "if\n\n\n1\n{\n}\nelse\n{\n}", api.Stmt{Kind: api.StmtIf, Line: 2, Exprs: one})
}

func TestPrograms(t *testing.T) {
	isSource(t, "", api.Source{})
	isSource(t, "\n# nothing\n", api.Source{})
	isSource(t, "global a;", api.Source{Globals: []api.Global{{Name: "a"}}})
	isSource(t, "global a[1];", api.Source{Globals: []api.Global{{Name: "a", Size: 1}}})
	isSource(t, "global a[1024];global b;", api.Source{Globals: []api.Global{{Name: "a", Size: api.MaxArray}, {Name: "b"}}})
	isSource(t, "func f(){}", api.Source{Funcs: []api.Func{{Name: "f", Line: 1}}})
	isSource(t, "func f(a){}", api.Source{Funcs: []api.Func{{Name: "f", Line: 1, Params: []string{"a"}}}})
	isSource(t, "func f(a,b,a){}", api.Source{Funcs: []api.Func{{Name: "f", Line: 1, Params: []string{"a", "b", "a"}}}})
	isSource(t, "\nfunc\nf\n(\n)\n{\n}\nfunc f(){}", api.Source{Funcs: []api.Func{{Name: "f", Line: 2}, {Name: "f", Line: 8}}})
	isSource(t, "func f(){}global a;\nfunc g(x){print x;}global b[2];", api.Source{
		Globals: []api.Global{{Name: "a"}, {Name: "b", Size: 2}},
		Funcs: []api.Func{{Name: "f", Line: 1},
			{Name: "g", Line: 2, Params: []string{"x"}, Body: []api.Stmt{{Kind: api.StmtPrint, Line: 2, Exprs: []api.Expr{name(2, "x")}}}}}})
}

func TestErrorsOfExprs(t *testing.T) {
	for text, line := range map[string]int{
		"": 1, "\n\n": 3, "# x": 1, "a\n<\nb\n<\nc": 4, "a<b\n==c": 2, "a<=b\n&&c!=d\n!=e": 3, "1\n2": 2, "a\nb": 2, "(\n": 2, "(a\n": 2, "(\n)": 2, "(a\n,b)": 2, ")": 1,
		"1\n+": 2, "1+\n*2": 2, "+1": 1, "*": 1, "-\n": 2, "a\n=b": 2, "a[\n]": 2, "a[1\n": 2, "a[1\n,2]": 2, "a[1]\n[2]": 2, "(a)\n[1]": 2, "1\n[2]": 2, "read\n[1]": 2, "f()\n[1]": 2,
		"&\n1": 2, "&\nread": 2, "&\n(f)": 2, "&f\n[1]": 2, "a\n&b": 2, "a&&\n&&b": 2, "f(\n,)": 2, "f(1\n": 2, "f(1,\n)": 2, "f(1\n2)": 2, "f(1;\n)": 1, "f(1)\n)": 2, "f\n{": 2, "a\n;": 2, "if": 1, "a\n!b": 2, "read\nread": 2, "func": 1,
	} {
		refusedExpr(t, text, line, api.ErrSyntax)
	}
}

func TestErrorsOfPrograms(t *testing.T) {
	for text, line := range map[string]int{
		"x": 1, "1": 1, "\nvar x=1;": 2, "}": 1, ";": 1, "global": 1, "global a\n": 2, "global\nread;": 2, "global a\n=1;": 2, "global a[\n]": 2, "global a[\nb]": 2, "global a[\n-1]": 2, "global a[1\n+1]": 2, "global a[1]\n[1];": 2, "global a[1]\n": 2, "global a;\n;": 2, "global a\n,b;": 2, "global a()\n;": 1,
		"func": 1, "func\n(": 2, "func\nif(){}": 2, "func f\n{}": 2, "func f(\n,": 2, "func f(\n1": 2, "func f(a\nb": 2, "func f(a,\n)": 2, "func f(a\n": 2, "func f()\n": 2, "func f()\n;": 2, "func f(){\n": 2, "func f(){}\n}": 2, "func f(){}\nx": 2, "func f(){}\nelse": 2, "func f(){\nfunc g(){}}": 2, "func f(){\nglobal a;}": 2, "func f(){\n;}": 2,
		"func f(){\n{}}": 2, "func f(){\n1;": 2, "func f(){\nread;": 2, "func f(){\n(": 2, "func f(){\nelse": 2, "func f(){x\n;": 2, "func f(){x\n(1);": 2, "func f(){x=\n;": 2, "func f(){x=1\n}": 2, "func f(){x=1\n=2": 2, "func f(){x\n==1": 2, "func f(){a[1]\n;": 2, "func f(){a[\n]": 2, "func f(){a[1]=\n;": 2, "func f(){a[1\n=2": 2, "func f(){a[1]\n[2]=3": 2,
		"func f(){var\n=": 2, "func f(){var x\n;": 2, "func f(){var x\n[": 2, "func f(){var\n1": 2, "func f(){return\n;": 2, "func f(){return 1\n}": 2, "func f(){print\n;": 2, "func f(){print 1\n,2;": 2, "func f(){call\n;": 2, "func f(){call f()\n}": 2,
		"func f(){if\n{}": 2, "func f(){if x\n;": 2, "func f(){if x\nprint": 2, "func f(){if x{}else\nif x{}": 2, "func f(){if x{}else{}\nelse": 2, "func f(){while x{}\nelse{}": 2, "func f(){while\n{": 2, "func f(){while x\n": 2, "func f(){if x{\n": 2, "func f(){if x{}\n": 2,
	} {
		refused(t, text, line, api.ErrSyntax)
	}
}

func TestErrorsOfTokens(t *testing.T) {
	long := strings.Repeat(" ", api.MaxSource-1) + "x"
	isExpr(t, long, name(1, "x"))
	refusedExpr(t, " "+long, 0, api.ErrLimit)
	refused(t, " "+long, 0, api.ErrLimit)
	refused(t, strings.Repeat("$", api.MaxSource+1), 0, api.ErrLimit)
	for text, line := range map[string]int{"$": 1, "a\n007": 2, "global a[0];\n)\n$": 3, "x\n|": 2} {
		refused(t, text, line, api.ErrToken)
		refusedExpr(t, text, line, api.ErrToken)
	}
}

func TestErrorsOfSizes(t *testing.T) {
	for _, size := range []string{"0", "1025", "9223372036854775807"} {
		refused(t, "global a[\n"+size+"\n];", 2, api.ErrRange)
	}
	refused(t, "global a[1];\nglobal b[0];\nglobal c[2000];", 2, api.ErrRange)
	refused(t, "global a[2000];\nglobal b[0];", 1, api.ErrRange)
	refused(t, "func f(){}\nglobal a[0];func g(){}", 2, api.ErrRange)
	refused(t, "global a[0];\nglobal b[1];", 1, api.ErrRange)
	refused(t, "global a[0]\nglobal", 2, api.ErrSyntax)
	refused(t, "global a[0];\n\n}", 3, api.ErrSyntax)
	refused(t, "global a[0];\nglobal b[00];", 2, api.ErrToken)
	refused(t, "global a[9223372036854775808];", 1, api.ErrToken)
	isSource(t, "func f() { print a[0]; }", api.Source{Funcs: []api.Func{{Name: "f", Line: 1, Body: []api.Stmt{
		{Kind: api.StmtPrint, Line: 1, Exprs: []api.Expr{element(1, "a", number(1, 0))}}}}}})
}

func TestNesting(t *testing.T) {
	const levels = api.MaxSource / 2
	isExpr(t, strings.Repeat("(", levels-1)+"x"+strings.Repeat(")", levels-1), name(1, "x"))
	refusedExpr(t, strings.Repeat("(", api.MaxSource), 1, api.ErrSyntax)
	refusedExpr(t, strings.Repeat("f(", levels), 1, api.ErrSyntax)
	refusedExpr(t, strings.Repeat("a[", levels), 1, api.ErrSyntax)
	refused(t, "func f(){"+strings.Repeat("if 1{", 10000)+"\n"+strings.Repeat("}", 10000), 2, api.ErrSyntax)
	x, _, e := ParseExpr(strings.Repeat("-", api.MaxSource-1) + "x")
	depth := 0
	for ; x.Kind == api.ExprUnary; x = x.Args[0] {
		depth++
	}
	if depth != api.MaxSource-1 || x.Kind != api.ExprName || e != api.OK {
		t.Errorf("%d signs ahead of %v, %d", depth, x, e)
	}
	x, _, e = ParseExpr("x" + strings.Repeat("()", levels-1))
	for depth = 0; x.Kind == api.ExprValue; x = x.Args[0] {
		depth++
	}
	if depth != levels-2 || x.Kind != api.ExprCall || e != api.OK {
		t.Errorf("%d calls of %v, %d", depth, x, e)
	}
}

// appended appends to all slices of expressions, so that slices that share memory change each other.
func appended(l []api.Expr) {
	_ = append(l, call(-1, "forged"))
	for _, x := range l {
		appended(x.Args)
	}
}

func appendedStmts(l []api.Stmt) {
	_ = append(l, api.Stmt{Name: "forged"})
	for _, s := range l {
		appended(s.Exprs)
		appendedStmts(s.Then)
		appendedStmts(s.Else)
	}
}

func TestNoSharedMemory(t *testing.T) {
	random := rand.New(rand.NewSource(1))
	for range 200 {
		w := &writer{random: random}
		p := w.source()
		text := w.text.String()
		got, _, _ := Parse(text)
		_ = append(got.Globals, api.Global{Name: "forged"})
		_ = append(got.Funcs, api.Func{Name: "forged"})
		for _, f := range got.Funcs {
			_ = append(f.Params, "forged")
			appendedStmts(f.Body)
		}
		if fmt.Sprint(got) != fmt.Sprint(p) {
			t.Fatalf("%q: slices share memory", text)
		}
		isSource(t, text, p)
	}
}
