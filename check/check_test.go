package check

import (
	"fmt"
	"strings"
	"testing"

	"warmpath/api"
)

// described is an expression in which each name says what it is.
func described(x api.Expr) string {
	kind := map[int]string{
		api.ExprNumber: "number", api.ExprLocal: "local", api.ExprGlobal: "global", api.ExprElement: "element", api.ExprUnary: "unary", api.ExprBinary: "binary",
		api.ExprAnd: "and", api.ExprOr: "or", api.ExprCall: "call", api.ExprValue: "value", api.ExprFunc: "func", api.ExprRead: "read", api.ExprName: "name",
	}[x.Kind]
	if x.Name != "" {
		kind += " " + x.Name
	}
	if len(x.Args) == 0 {
		return kind
	}
	var args []string
	for _, arg := range x.Args {
		args = append(args, described(arg))
	}
	return kind + "(" + strings.Join(args, ", ") + ")"
}

// declarations are what the expressions of the next tests can use.
const declarations = "global s; global a[3]; global t; global b[1];\n"

// functions come behind the function main.
const functions = "\nfunc none() { } func one(x) { } func six(a1, a2, a3, a4, a5, a6) { }"

// resolvedExpr is what becomes of an expression that is used where l and m are locals.
func resolvedExpr(t *testing.T, text string) (string, api.Errno) {
	t.Helper()
	q, _, e := Resolve(parsed(t, declarations+"func main() { var l = 1; var m = l; return "+text+"; var late = 1; }"+functions))
	if e != api.OK {
		return "", e
	}
	return described(q.Funcs[0].Body[2].Exprs[0]), e
}

func TestExprs(t *testing.T) {
	for text, want := range map[string]string{
		"1": "number", "read": "read", "l": "local l", "m": "local m", "s": "global s", "t": "global t",
		"a[1]": "element a(number)", "b[a[l]]": "element b(element a(local l))", "&main": "func main", "&six": "func six",
		"-l": "unary(local l)", "l + s": "binary(local l, global s)", "s && l": "and(global s, local l)", "l || t": "or(local l, global t)", "l < a[s]": "binary(local l, element a(global s))",
		"main()": "call main", "none()": "call none", "one(s)": "call one(global s)", "one(one(l))": "call one(call one(local l))", "six(1, l, s, read, &one, none())": "call six(number, local l, global s, read, func one, call none)",
		"l()": "value(local l)", "l(1)": "value(local l, number)", "s()": "value(global s)", "s(t, m)": "value(global s, global t, local m)", "l(l)": "value(local l, local l)", "s(l(s(1)))": "value(global s, value(local l, value(global s, number)))",
		"(l)(1)": "value(local l, number)", "(s)(1)": "value(global s, number)", "l(1)(2)": "value(value(local l, number), number)", "none()(1)": "value(call none, number)", "(none())(1, 2)": "value(call none, number, number)", "1(2)": "value(number, number)",
		"&one(1, 2)": "value(func one, number, number)", "a[s](l)": "value(element a(global s), local l)", "l(1, 2, 3, 4, 5, 6)": "value(local l, number, number, number, number, number, number)", "s(1, 2, 3, 4, 5, l)": "value(global s, number, number, number, number, number, local l)",
		"read(1, 2, 3, 4, 5, s)": "value(read, number, number, number, number, number, global s)",
	} {
		if got, e := resolvedExpr(t, text); got != want || e != api.OK {
			t.Errorf("%s: %s, %d", text, got, e)
		}
	}
}

func TestErrorsOfExprs(t *testing.T) {
	for text, want := range map[string]api.Errno{
		"x": api.ErrName, "late": api.ErrName, "x[1]": api.ErrName, "&x": api.ErrName, "x()": api.ErrName, "late()": api.ErrName, "late[1]": api.ErrName, "&late": api.ErrName, "a1": api.ErrName, "L": api.ErrName, "a1(2)": api.ErrName,
		"a": api.ErrKind, "none": api.ErrKind, "main": api.ErrKind, "l[1]": api.ErrKind, "s[1]": api.ErrKind, "none[1]": api.ErrKind, "&l": api.ErrKind, "&s": api.ErrKind, "&a": api.ErrKind, "a()": api.ErrKind, "a(1)": api.ErrKind, "(a)(1)": api.ErrKind, "(none)()": api.ErrKind,
		"none(1)": api.ErrArity, "one()": api.ErrArity, "one(1, 2)": api.ErrArity, "main(1)": api.ErrArity, "six(1, 2, 3, 4, 5)": api.ErrArity, "six(1, 2, 3, 4, 5, 6, 7)": api.ErrArity,
		"l(1, 2, 3, 4, 5, 6, 7)": api.ErrLimit, "s(1, 2, 3, 4, 5, 6, 7)": api.ErrLimit, "(l)(1, 2, 3, 4, 5, 6, 7)": api.ErrLimit, "none()(1, 2, 3, 4, 5, 6, 7)": api.ErrLimit, "1(1, 2, 3, 4, 5, 6, 7, 8)": api.ErrLimit,
	} {
		if got, e := resolvedExpr(t, text); e != want {
			t.Errorf("%s: %q, %d, not %d", text, got, e, want)
		}
		for _, around := range []string{"-(%s)", "1 + (%s)", "(%s) * 2", "l && (%s)", "(%s) || l", "a[%s]", "one(%s)", "six(1, 2, 3, 4, 5, %s)", "l(%s)", "s(1, %s)", "(%s)(1)", "l(1)(%s)"} {
			whole := fmt.Sprintf(around, text)
			if got, e := resolvedExpr(t, whole); e != want {
				t.Errorf("%s: %q, %d, not %d", whole, got, e, want)
			}
		}
	}
}

// TestAllElseStays compares the whole result for a program in which only some parts change.
func TestAllElseStays(t *testing.T) {
	at := func(line int, x api.Expr) api.Expr {
		x.Line = line
		return x
	}
	p := parsed(t, `global s;
global a[3];
func main() {
	var f = &main;
	call f
	(
	);
	if s { a[f] = 1 + f; } else { while s { s = -7; } }
	return s(f);
}
func g(x, y) { print x; }
global z[1024];
`)
	q, line, e := Resolve(p)
	if line != 0 || e != api.OK {
		t.Fatalf("line %d, %d", line, e)
	}
	f, s := api.Expr{Kind: api.ExprLocal, Name: "f"}, api.Expr{Kind: api.ExprGlobal, Name: "s"}
	p.Funcs[0].Body[1].Exprs[0] = api.Expr{Kind: api.ExprValue, Line: 6, Args: []api.Expr{at(6, f)}}
	branch := &p.Funcs[0].Body[2]
	branch.Exprs[0] = at(8, s)
	branch.Then[0].Exprs[0] = at(8, f)
	branch.Then[0].Exprs[1].Args[1] = at(8, f)
	branch.Else[0].Exprs[0] = at(8, s)
	p.Funcs[0].Body[3].Exprs[0] = api.Expr{Kind: api.ExprValue, Line: 9, Args: []api.Expr{at(9, s), at(9, f)}}
	p.Funcs[1].Body[0].Exprs[0].Kind = api.ExprLocal
	if fmt.Sprint(q) != fmt.Sprint(p) {
		t.Errorf("%v, not %v", q, p)
	}
}

// isRight checks that a program has no error.
func isRight(t *testing.T, p api.Source) {
	t.Helper()
	if q, line, e := Resolve(p); line != 0 || e != api.OK || len(q.Funcs) != len(p.Funcs) || len(q.Globals) != len(p.Globals) {
		t.Errorf("%.300s: line %d, %d", fmt.Sprint(p), line, e)
	}
}

// isWrong checks the first error of a program, and that there is no other result.
func isWrong(t *testing.T, p api.Source, wantLine int, want api.Errno) {
	t.Helper()
	if q, line, e := Resolve(p); line != wantLine || e != want || len(q.Funcs)+len(q.Globals) > 0 {
		t.Errorf("%.300s: line %d, %d, not line %d, %d", fmt.Sprint(p), line, e, wantLine, want)
	}
}

func isWrongText(t *testing.T, text string, line int, want api.Errno) {
	t.Helper()
	isWrong(t, parsed(t, text), line, want)
}

func isRightText(t *testing.T, text string) {
	t.Helper()
	isRight(t, parsed(t, text))
}

// repeated is n pieces of a text with "N" as their number, from 1 on, and a separator between them.
func repeated(n int, piece, separator string) string {
	var l []string
	for i := range n {
		l = append(l, strings.ReplaceAll(piece, "N", fmt.Sprint(i+1)))
	}
	return strings.Join(l, separator)
}

func TestErrorsOfPrograms(t *testing.T) {
	const main = "\nfunc main() { }\n"
	isRightText(t, main)
	isRightText(t, main+repeated(api.MaxFuncs-1, "func fN() { }", "\n")+repeated(api.MaxGlobals, "global gN;", "\n"))
	isWrongText(t, main+repeated(api.MaxFuncs, "func fN() { }", "\n"), 0, api.ErrLimit)
	isWrongText(t, main+repeated(api.MaxGlobals+1, "global gN;", "\n"), 0, api.ErrLimit)
	isWrongText(t, repeated(api.MaxFuncs+1, "func f() { return x; }", "\n"), 0, api.ErrLimit)
	isWrongText(t, repeated(api.MaxGlobals+1, "global g;", "\n"), 0, api.ErrLimit)
	for _, text := range []string{"", "global g; global g;", "global main;", "\nfunc f() { }" + main, "\nfunc Main() { }", "\nfunc main(x) { }", "\nfunc main(x, x) { return y; }" + main, "\nfunc f() { }\nfunc f() { }", "\nfunc f() { return x; }"} {
		isWrongText(t, text, 0, api.ErrMain)
	}
	for _, text := range []string{"global g; global g;", "global g[1]; global h; global g;", "global h; global g[1]; global g[1];"} {
		isWrongText(t, main+text+" func g() { }", 0, api.ErrTwice)
		isWrongText(t, text+main+"func main() { }", 0, api.ErrTwice)
	}
	isWrongText(t, main+"func main() { }", 3, api.ErrTwice)
	isWrongText(t, main+"\nfunc main(x) { }", 4, api.ErrTwice)
	isWrongText(t, main+"func f() { }\nfunc g() { }\nfunc f() { }\nfunc g() { }", 5, api.ErrTwice)
	isWrongText(t, main+"func f() { }\nglobal f;", 3, api.ErrTwice)
	isWrongText(t, main+"func f() { }\nglobal f[1];", 3, api.ErrTwice)
	isWrongText(t, main+"global main;\nfunc f() { }\nfunc f() { }", 2, api.ErrTwice)
	isRightText(t, main+"func Main(x) { } global MAIN; func f(g) { } func g2(g) { var h = 1; } func g3(g) { var h = 1; }")
}

// TestFunctionNamesComeFirst has errors of the names of functions behind all others.
func TestFunctionNamesComeFirst(t *testing.T) {
	isWrongText(t, "func main() { return x; }\nfunc f(a, a) { return y; }\nfunc f() { }", 3, api.ErrTwice)
	isWrongText(t, "func main() { return x; }\nfunc f("+repeated(api.MaxParams+1, "pN", ",")+") { }\nfunc main() { }", 3, api.ErrTwice)
	isWrongText(t, "func main() { return x; }\nfunc f(a, a) { }\nglobal g; global h; global g;", 0, api.ErrTwice)
	isWrongText(t, "func main() { }\nfunc f() {\nreturn x; }\nfunc g(a, a) { }", 3, api.ErrName)
	isWrongText(t, "func main() { }\nfunc g(a, a) { }\nfunc f() {\nreturn x; }", 2, api.ErrTwice)
	isWrongText(t, "func main() {\nmain = 1; }\nfunc g("+repeated(api.MaxParams+1, "pN", ",")+") { }", 2, api.ErrKind)
}

func TestErrorsOfFunctions(t *testing.T) {
	const main = "global g; global a[1]; func main() { }\n"
	params := repeated(api.MaxParams, "pN", ", ")
	isRightText(t, main+"func f("+params+") { "+repeated(api.MaxLocals-api.MaxParams, "var vN = 1;", "")+"}")
	isRightText(t, main+"func f() { "+repeated(api.MaxLocals, "var vN = 1;", "")+"}")
	isWrongText(t, main+"func f("+params+", q) { }", 2, api.ErrLimit)
	isWrongText(t, main+"func f("+params+") {\n"+repeated(api.MaxLocals-api.MaxParams+1, "var vN = 1;", "\n")+"}", 2, api.ErrLimit)
	isWrongText(t, main+"func f() {\n"+repeated(api.MaxLocals+1, "var vN = 1;", "\n")+"}", 2, api.ErrLimit)
	isWrongText(t, main+"func f() {\n"+repeated(api.MaxLocals/2, "if 1 { var vN = 1; } else { var wN = 1; }", "\n")+"\nvar last = 1; }", 2, api.ErrLimit)
	isWrongText(t, main+"func f() {\n"+repeated(api.MaxLocals+1, "var v = 1;", "\n")+"}", 2, api.ErrLimit)
	nest := func(blocks int, inner string) string {
		return main + "func f() {\n" + strings.Repeat("while 1 {\n", blocks) + inner + strings.Repeat("}", blocks) + "}"
	}
	isRightText(t, nest(api.MaxNesting, ""))
	isRightText(t, nest(api.MaxNesting-1, "print 1;"))
	isWrongText(t, nest(api.MaxNesting, "print 1;"), 2, api.ErrLimit)
	isWrongText(t, nest(api.MaxNesting+1, ""), 2, api.ErrLimit)
	for _, list := range []string{"p, p", "p, q, p", "g", "p, a", "f", "p, main", "later", "q, p, p, q", "p, p, " + params[:strings.LastIndex(params, ", p5")]} {
		isWrongText(t, main+"func f("+list+") {\nreturn x; } func later() { }", 2, api.ErrTwice)
	}
	isWrongText(t, main+"func f(p, p) {\n"+repeated(api.MaxLocals-1, "var vN = 1;", "\n")+"}", 2, api.ErrLimit)
	isWrongText(t, main+"func f() {\nreturn x;\n"+strings.Repeat("while 1 {", api.MaxNesting+1)+strings.Repeat("}", api.MaxNesting+1)+"}", 2, api.ErrLimit)
}

// inMain is a program whose function main has these statements from line 2 on.
func inMain(statements string) string {
	return "func main() {\n" + statements + "\n}\nfunc none() { } func one(x) { } global s; global t; global a[3];"
}

func TestRightStatements(t *testing.T) {
	for _, statements := range []string{
		"", "var x = 1; x = 2; s = x; a[x] = s; print x; call x; call none(); if x { } while x { } return x;",
		"var f = &main; call f();", "var x = 1; var y = x; y = x(y); a[a[x]] = y;",
		"if 1 { var x = 1; x = x; } x = x;", "if 1 { var x = 1; } else { x = x; var y = 1; } x = y;", "if 1 { } else { var x = 1; } x = x;",
		"while 1 { var x = 1; while x { x = x; } } return x;", "if 1 { if 1 { var x = 1; } } else { return x; } while x { print x; }",
		"s = s(1, 2, 3, 4, 5, 6); t = t();", "return main() + one(none());",
	} {
		isRightText(t, inMain(statements))
	}
}

// wrong is the line of an error, and the error.
type wrong struct {
	line int
	e    api.Errno
}

func TestErrorsOfStatements(t *testing.T) {
	for statements, want := range map[string]wrong{
		"var x = 1;\nvar x = 2;": {3, api.ErrTwice}, "var s = 1;": {2, api.ErrTwice}, "var a = 1;": {2, api.ErrTwice}, "var main = 1;": {2, api.ErrTwice}, "var one = 1;": {2, api.ErrTwice},
		"if 1 { var x = 1; } else {\nvar x = 1; }": {3, api.ErrTwice}, "while 1 { var x = 1; }\nvar x = 1;": {3, api.ErrTwice}, "var x = 1; while 1 {\nvar x = 1; }": {3, api.ErrTwice}, "if 1 { } else { var x = 1; }\nif 1 {\nvar x = 1; }": {4, api.ErrTwice},
		"x = 1;": {2, api.ErrName}, "x = 1;\nvar x = 1;": {2, api.ErrName}, "x[1] = 1;": {2, api.ErrName}, "if 1 { x = 1; } else { var x = 1; }": {2, api.ErrName}, "while 1 {\nx = 1; var x = 1; }": {3, api.ErrName},
		"a = 1;": {2, api.ErrKind}, "main = 1;": {2, api.ErrKind}, "one = 1;": {2, api.ErrKind}, "s[1] = 1;": {2, api.ErrKind}, "var x = 1;\nx[1] = 1;": {3, api.ErrKind}, "none[1] = 1;": {2, api.ErrKind},
		"var x = x;": {2, api.ErrName}, "var x =\nx;": {3, api.ErrName}, "while x {\nvar x = 1; }": {2, api.ErrName}, "if x {\nvar x = 1; }": {2, api.ErrName},
		"var\ns\n=\na;": {5, api.ErrKind}, "y =\nz;": {3, api.ErrName}, "s[\nx\n] =\n&y;": {3, api.ErrName}, "s[\n1\n] =\n&y;": {5, api.ErrName}, "s[\n1\n] =\n2;": {2, api.ErrKind},
		"if\none {\nx = 1; } else {\ny = 1; }": {3, api.ErrKind}, "if\n1 {\nx = 1; } else {\na = 1; }": {4, api.ErrName}, "if\n1 {\n} else {\na = 1; x = 1; }": {5, api.ErrKind}, "if\n1 {\nprint 1; } else {\nprint 1; }\na = 1;": {6, api.ErrKind},
		"while\nnone(1) {\nx = 1; }": {3, api.ErrArity}, "while\n1 {\nx = 1; }": {4, api.ErrName}, "return\nx;": {3, api.ErrName}, "print\nx;": {3, api.ErrName}, "call\nx;": {3, api.ErrName}, "call\nx\n(\n);": {4, api.ErrName}, "call none\n(1);": {3, api.ErrArity},
		"return 1;\nreturn x;\nreturn a;": {3, api.ErrName}, "return a;\nreturn x;": {2, api.ErrKind},
	} {
		isWrongText(t, inMain(statements), want.line, want.e)
	}
	isWrongText(t, inMain("")+"\nfunc f(x) {\nvar x = 1; }", 6, api.ErrTwice)
	isRightText(t, inMain("var x = 1;")+"\nfunc f() { var x = 1; x = 1; }")
	isWrongText(t, inMain("var x = 1;")+"\nfunc f() {\nx = 1; }", 6, api.ErrName)
	isWrongText(t, inMain("")+"\nfunc f(x) { x = 1; }\nfunc g() { return x; }", 6, api.ErrName)
}

// TestOrderInExprs has several errors in one expression, whose parts are in lines of their own.
func TestOrderInExprs(t *testing.T) {
	for text, want := range map[string]wrong{
		"x\n+\na": {1, api.ErrName}, "a\n+\nx": {1, api.ErrKind}, "1\n+\nx": {3, api.ErrName}, "(x\n)\n&&\n(\na)": {1, api.ErrName}, "-\nx": {2, api.ErrName},
		"none\n(\nx\n)": {2, api.ErrArity}, "x\n(\na\n)": {2, api.ErrName}, "a\n(\nx\n)": {2, api.ErrKind}, "one\n(\na\n)": {3, api.ErrKind}, "one\n(\n1\n,\nx)": {2, api.ErrArity},
		"s\n(1,2,3,4,5,6,\nx)": {2, api.ErrLimit}, "s\n(1,2,3,4,5,\nx)": {3, api.ErrName}, "x\n(1,2,3,4,5,6,7)": {2, api.ErrName}, "a\n(1,2,3,4,5,6,7)": {2, api.ErrKind}, "none\n(1,2,3,4,5,6,7)": {2, api.ErrArity},
		"none(1)\n(1,2,3,4,5,6,7)": {2, api.ErrLimit}, "none(1)\n(1,2,3,4,5,6)": {1, api.ErrArity}, "(x)\n(\n1,2,3,4,5,6,7)": {2, api.ErrLimit}, "(x)\n(\na)": {1, api.ErrName}, "&x\n(\na)": {1, api.ErrName},
		"none\n[\nx]": {1, api.ErrKind}, "x\n[\na]": {1, api.ErrName}, "a\n[\nx]": {3, api.ErrName},
	} {
		isWrongText(t, inMain("return\n"+text+";"), want.line+2, want.e)
	}
}

// TestHeights has heights as they came from the parser, of which a call that becomes that of a value has one less.
func TestHeights(t *testing.T) {
	const most = api.MaxHeight
	tower := func(levels int, inner string) string { return strings.Repeat("-", levels) + inner }
	for _, right := range []string{tower(most-1, "s"), tower(most-1, "s()"), tower(most-1, "none()"), tower(most-2, "(s)()"), tower(most-2, "s(1)"), "none() + " + tower(most-2, "1")} {
		isRightText(t, inMain("return "+right+";"))
	}
	for _, wrong := range []string{tower(most, "s"), tower(most, "x"), tower(most-1, "(x)()"), tower(most-1, "s(x)"), "x(" + tower(most-1, "1") + ")", "(\na)\n+\n" + tower(most-1, "1"), "none(\n1,\n" + tower(most-1, "1") + ")"} {
		line := 2 + strings.Count(wrong[:strings.IndexAny(wrong, "-+")], "\n")
		if strings.HasPrefix(wrong, "none") {
			line = 2
		}
		isWrongText(t, inMain("return "+wrong+";"), line, api.ErrLimit)
	}
	high, low := tower(most, "1"), tower(most-1, "1")
	isWrongText(t, inMain("a[\n"+high+"] =\nx;"), 3, api.ErrLimit)
	isWrongText(t, inMain("a[\nx] =\n"+high+";"), 3, api.ErrName)
	isWrongText(t, inMain("x[\n1] =\n"+high+";"), 4, api.ErrLimit)
	isWrongText(t, inMain("var s =\n"+high+";"), 3, api.ErrLimit)
	isRightText(t, inMain("a["+low+"] = "+low+"; if "+low+" { } while "+low+" { } print "+low+";"))
	isWrongText(t, inMain("while 1 {\nif\n"+high+" { } }"), 4, api.ErrLimit)
}
