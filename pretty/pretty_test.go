package pretty

import (
	"strings"
	"testing"

	"warmpath/api"
	"warmpath/syntax"
)

// The shapes of expressions, without lines.

func number(n int) api.Expr { return api.Expr{Kind: api.ExprNumber, Value: n} }

func name(s string) api.Expr { return api.Expr{Kind: api.ExprName, Name: s} }

func local(s string) api.Expr { return api.Expr{Kind: api.ExprLocal, Name: s} }

func global(s string) api.Expr { return api.Expr{Kind: api.ExprGlobal, Name: s} }

func function(s string) api.Expr { return api.Expr{Kind: api.ExprFunc, Name: s} }

func element(s string, index api.Expr) api.Expr {
	return api.Expr{Kind: api.ExprElement, Name: s, Args: []api.Expr{index}}
}

func call(s string, args ...api.Expr) api.Expr {
	return api.Expr{Kind: api.ExprCall, Name: s, Args: args}
}

// node is a tree of a kind that needs no name.
func node(kind, op int, args ...api.Expr) api.Expr {
	return api.Expr{Kind: kind, Op: op, Args: args}
}

func callOf(x api.Expr, args ...api.Expr) api.Expr {
	return node(api.ExprValue, 0, append([]api.Expr{x}, args...)...)
}

func unary(op int, x api.Expr) api.Expr { return node(api.ExprUnary, op, x) }

func binary(op int, x, y api.Expr) api.Expr { return node(api.ExprBinary, op, x, y) }

// signs are those of the binary operators, by their numbers.
func signs() map[int]string {
	return map[int]string{
		api.OpAdd: "+", api.OpSubtract: "-", api.OpMultiply: "*", api.OpDivide: "/", api.OpModulo: "%",
		api.OpLess: "<", api.OpAtMost: "<=", api.OpEqual: "==", api.OpUnequal: "!=",
	}
}

// isText checks how an expression is written.
func isText(t *testing.T, x api.Expr, want string) {
	t.Helper()
	if got := Expr(x); got != want {
		t.Errorf("%.200q, not %.200q", got, want)
	}
}

// isProgram checks how a program is written.
func isProgram(t *testing.T, p api.Source, want string) {
	t.Helper()
	if got := Format(p); got != want {
		t.Errorf("%.500q, not %.500q", got, want)
	}
}

// isBody checks how the statements of a function are written.
func isBody(t *testing.T, want string, l ...api.Stmt) {
	t.Helper()
	isProgram(t, api.Source{Funcs: []api.Func{{Name: "f", Body: l}}}, "func f() {\n"+want+"}\n")
}

func TestExprWithoutOperators(t *testing.T) {
	isText(t, number(0), "0")
	isText(t, number(1<<63-1), "9223372036854775807")
	isText(t, name("x_1"), "x_1")
	isText(t, local("x_1"), "x_1")
	isText(t, global("x_1"), "x_1")
	isText(t, node(api.ExprRead, 0), "read")
	isText(t, function("main"), "&main")
	isText(t, element("a", number(1)), "a[1]")
	isText(t, element("a", element("b", name("x"))), "a[b[x]]")
}

func TestExprOfEachOperator(t *testing.T) {
	x, y := name("x"), number(2)
	for op, sign := range signs() {
		isText(t, binary(op, x, y), "x "+sign+" 2")
		isText(t, binary(op, binary(op, x, y), y), "(x "+sign+" 2) "+sign+" 2")
		isText(t, binary(op, x, binary(op, x, y)), "x "+sign+" (x "+sign+" 2)")
	}
	isText(t, node(api.ExprAnd, 0, x, y), "x && 2")
	isText(t, node(api.ExprOr, 0, x, y), "x || 2")
	isText(t, unary(api.OpNegate, x), "-x")
	isText(t, unary(api.OpNot, x), "!x")
	isText(t, unary(api.OpNegate, number(1)), "-1")
	isText(t, unary(api.OpNegate, unary(api.OpNegate, x)), "-(-x)")
	isText(t, unary(api.OpNot, binary(api.OpLess, x, y)), "!(x < 2)")
	isText(t, binary(api.OpAdd, number(1), binary(api.OpMultiply, number(2), number(3))), "1 + (2 * 3)")
	isText(t, node(api.ExprOr, 0, node(api.ExprAnd, 0, x, y), unary(api.OpNot, x)), "(x && 2) || (!x)")
}

func TestCalls(t *testing.T) {
	one, two := number(1), number(2)
	isText(t, call("f"), "f()")
	isText(t, call("f", one), "f(1)")
	isText(t, call("f", one, two, binary(api.OpAdd, one, two)), "f(1, 2, 1 + 2)")
	isText(t, call("f", call("f", call("g")), call("h")), "f(f(g()), h())")
	isText(t, callOf(call("f", one), two), "f(1)(2)")
	isText(t, callOf(call("f"), one, two), "f()(1, 2)")
	isText(t, callOf(callOf(callOf(call("f"))), one), "f()()()(1)")
	isText(t, callOf(name("f")), "(f)()")
	isText(t, callOf(local("f"), local("f")), "(f)(f)")
	isText(t, callOf(global("f"), one, two), "(f)(1, 2)")
	isText(t, callOf(callOf(name("f"), one), two), "(f)(1)(2)")
	isText(t, callOf(element("a", one), two), "a[1](2)")
	isText(t, callOf(function("f"), one), "&f(1)")
	isText(t, callOf(node(api.ExprRead, 0)), "read()")
	isText(t, callOf(one, two), "1(2)")
	isText(t, callOf(unary(api.OpNegate, name("f")), one), "(-f)(1)")
	isText(t, unary(api.OpNegate, callOf(name("f"), one)), "-(f)(1)")
	isText(t, callOf(binary(api.OpAdd, one, two)), "(1 + 2)()")
}

// shape is an expression, how it is written alone, as an operand, and as what is called.
type shape struct {
	x                     api.Expr
	alone, operand, value string
}

// shapes have all kinds of expressions.
func shapes() []shape {
	x, y := name("x"), name("y")
	return []shape{
		{number(7), "7", "7", "7"},
		{x, "x", "x", "(x)"},
		{local("v"), "v", "v", "(v)"},
		{global("g"), "g", "g", "(g)"},
		{element("a", x), "a[x]", "a[x]", "a[x]"},
		{node(api.ExprRead, 0), "read", "read", "read"},
		{function("h"), "&h", "&h", "&h"},
		{call("h"), "h()", "h()", "h()"},
		{call("h", x, y), "h(x, y)", "h(x, y)", "h(x, y)"},
		{callOf(x, y), "(x)(y)", "(x)(y)", "(x)(y)"},
		{unary(api.OpNegate, x), "-x", "(-x)", "(-x)"},
		{unary(api.OpNot, x), "!x", "(!x)", "(!x)"},
		{binary(api.OpAdd, x, y), "x + y", "(x + y)", "(x + y)"},
		{binary(api.OpEqual, x, y), "x == y", "(x == y)", "(x == y)"},
		{node(api.ExprAnd, 0, x, y), "x && y", "(x && y)", "(x && y)"},
		{node(api.ExprOr, 0, x, y), "x || y", "(x || y)", "(x || y)"},
	}
}

func TestParenthesesInEachPlace(t *testing.T) {
	z := number(0)
	for _, s := range shapes() {
		isText(t, s.x, s.alone)
		isText(t, unary(api.OpNegate, s.x), "-"+s.operand)
		isText(t, unary(api.OpNot, s.x), "!"+s.operand)
		for op, sign := range signs() {
			isText(t, binary(op, s.x, z), s.operand+" "+sign+" 0")
			isText(t, binary(op, z, s.x), "0 "+sign+" "+s.operand)
		}
		isText(t, node(api.ExprAnd, 0, s.x, z), s.operand+" && 0")
		isText(t, node(api.ExprAnd, 0, z, s.x), "0 && "+s.operand)
		isText(t, node(api.ExprOr, 0, s.x, z), s.operand+" || 0")
		isText(t, node(api.ExprOr, 0, z, s.x), "0 || "+s.operand)
		isText(t, element("b", s.x), "b["+s.alone+"]")
		isText(t, call("f", s.x), "f("+s.alone+")")
		isText(t, call("f", z, s.x), "f(0, "+s.alone+")")
		isText(t, callOf(s.x), s.value+"()")
		isText(t, callOf(s.x, s.x), s.value+"("+s.alone+")")
		isText(t, callOf(z, z, s.x), "0(0, "+s.alone+")")
	}
}

func TestStatements(t *testing.T) {
	for _, s := range shapes() {
		one := []api.Expr{s.x}
		isBody(t, "\tvar v = "+s.alone+";\n", api.Stmt{Kind: api.StmtVar, Name: "v", Exprs: one})
		isBody(t, "\tv = "+s.alone+";\n", api.Stmt{Kind: api.StmtAssign, Name: "v", Exprs: one})
		isBody(t, "\tb["+s.alone+"] = 0;\n", api.Stmt{Kind: api.StmtStore, Name: "b", Exprs: []api.Expr{s.x, number(0)}})
		isBody(t, "\tb[0] = "+s.alone+";\n", api.Stmt{Kind: api.StmtStore, Name: "b", Exprs: []api.Expr{number(0), s.x}})
		isBody(t, "\treturn "+s.alone+";\n", api.Stmt{Kind: api.StmtReturn, Exprs: one})
		isBody(t, "\tprint "+s.alone+";\n", api.Stmt{Kind: api.StmtPrint, Exprs: one})
		isBody(t, "\tcall "+s.alone+";\n", api.Stmt{Kind: api.StmtExpr, Exprs: one})
		isBody(t, "\twhile "+s.alone+" {\n\t}\n", api.Stmt{Kind: api.StmtWhile, Exprs: one})
		isBody(t, "\tif "+s.alone+" {\n\t}\n", api.Stmt{Kind: api.StmtIf, Exprs: one})
	}
}

func TestBlocks(t *testing.T) {
	x := []api.Expr{name("x")}
	print := func(n int) api.Stmt { return api.Stmt{Kind: api.StmtPrint, Exprs: []api.Expr{number(n)}} }
	branch := func(then, other []api.Stmt) api.Stmt {
		return api.Stmt{Kind: api.StmtIf, Exprs: x, Then: then, Else: other}
	}
	loop := func(l ...api.Stmt) api.Stmt { return api.Stmt{Kind: api.StmtWhile, Exprs: x, Then: l} }
	both := []api.Stmt{print(1), print(2)}
	isBody(t, "")
	isBody(t, "\tprint 1;\n\tprint 2;\n", both...)
	isBody(t, "\twhile x {\n\t\tprint 1;\n\t\tprint 2;\n\t}\n\tprint 3;\n", loop(both...), print(3))
	isBody(t, "\tif x {\n\t\tprint 1;\n\t\tprint 2;\n\t}\n\tprint 3;\n", branch(both, nil), print(3))
	isBody(t, "\tif x {\n\t\tprint 1;\n\t} else {\n\t\tprint 1;\n\t\tprint 2;\n\t}\n\tprint 3;\n", branch(both[:1], both), print(3))
	isBody(t, "\tif x {\n\t} else {\n\t\tprint 1;\n\t}\n", branch(nil, both[:1]))
	isBody(t, "\tif x {\n\t}\n", branch([]api.Stmt{}, []api.Stmt{}))
	isBody(t, "\tif x {\n\t} else {\n\t\tif x {\n\t\t} else {\n\t\t\tprint 1;\n\t\t}\n\t}\n", branch(nil, []api.Stmt{branch(nil, both[:1])}))
	isBody(t, "\tif x {\n\t\tif x {\n\t\t\tprint 1;\n\t\t}\n\t} else {\n\t\twhile x {\n\t\t}\n\t}\n", branch([]api.Stmt{branch(both[:1], nil)}, []api.Stmt{loop()}))
	isBody(t, "\twhile x {\n\t\twhile x {\n\t\t\twhile x {\n\t\t\t\tprint 1;\n\t\t\t}\n\t\t}\n\t\tprint 2;\n\t}\n", loop(loop(loop(print(1))), print(2)))
}

func TestPrograms(t *testing.T) {
	isProgram(t, api.Source{}, "")
	isProgram(t, api.Source{Globals: []api.Global{{Name: "a"}}}, "global a;\n")
	isProgram(t, api.Source{Globals: []api.Global{{Name: "a", Size: 10}}}, "global a[10];\n")
	isProgram(t, api.Source{Globals: []api.Global{{Name: "b", Size: 1}, {Name: "a"}, {Name: "c", Size: api.MaxArray}}}, "global b[1];\nglobal a;\nglobal c[1024];\n")
	isProgram(t, api.Source{Funcs: []api.Func{{Name: "f"}}}, "func f() {\n}\n")
	isProgram(t, api.Source{Funcs: []api.Func{{Name: "f", Params: []string{"a"}}}}, "func f(a) {\n}\n")
	isProgram(t, api.Source{Funcs: []api.Func{{Name: "f", Params: []string{"a", "b", "c"}}, {Name: "e"}}}, "func f(a, b, c) {\n}\nfunc e() {\n}\n")
	isProgram(t, api.Source{
		Globals: []api.Global{{Name: "a"}, {Name: "b", Size: 2}},
		Funcs: []api.Func{{Name: "main", Body: []api.Stmt{{Kind: api.StmtReturn, Exprs: []api.Expr{global("a")}}}},
			{Name: "g", Params: []string{"x", "y"}, Body: []api.Stmt{{Kind: api.StmtPrint, Exprs: []api.Expr{local("x")}}}}},
	}, "global a;\nglobal b[2];\nfunc main() {\n\treturn a;\n}\nfunc g(x, y) {\n\tprint x;\n}\n")
}

func TestTexts(t *testing.T) {
	for text, want := range map[string]string{
		"1+2*3": "1 + (2 * 3)", "(1+2)*3": "(1 + 2) * 3", "a-b-c": "(a - b) - c", "((a))": "a", "a||b&&!c": "a || (b && (!c))", "- - a": "-(-a)", "(f)(1)(2)": "(f)(1)(2)", "(f(1))(2)": "f(1)(2)", "(a[1])(2)": "a[1](2)", "(&f)()": "&f()", "-f(x,y)": "-f(x, y)", "(-1)()": "(-1)()", "a\n#\n<=\nb": "a <= b",
	} {
		if x, _, e := syntax.ParseExpr(text); Expr(x) != want || e != api.OK {
			t.Errorf("%q: %q, %d", text, Expr(x), e)
		}
	}
	p, _, e := syntax.Parse("func main(){var x=1;if x{}else{}if !x{x=2;}else{a[x]=read;}while x<9{call f(x);}}global a[10];func f(a,b){return a;}global b;")
	if e != api.OK {
		t.Fatal(e)
	}
	isProgram(t, p, `global a[10];
global b;
func main() {
	var x = 1;
	if x {
	}
	if !x {
		x = 2;
	} else {
		a[x] = read;
	}
	while x < 9 {
		call f(x);
	}
}
func f(a, b) {
	return a;
}
`)
}

func TestDeepTrees(t *testing.T) {
	const levels = 1<<16 - 1
	x, y := name("x"), name("x")
	for range levels {
		x, y = unary(api.OpNegate, x), unary(api.OpNegate, y)
	}
	isText(t, x, strings.Repeat("-(", levels-1)+"-x"+strings.Repeat(")", levels-1))
	if !SameExpr(x, y) || SameExpr(x, y.Args[0]) {
		t.Error("deep expressions are not compared")
	}
	x = name("x")
	for range levels {
		x = callOf(x)
	}
	isText(t, x, "(x)"+strings.Repeat("()", levels))
	text := ""
	var body []api.Stmt
	const blocks = 300
	for i := range blocks {
		body = []api.Stmt{{Kind: api.StmtWhile, Exprs: []api.Expr{number(1)}, Then: body}}
		tabs := strings.Repeat("\t", blocks-i)
		text = tabs + "while 1 {\n" + text + tabs + "}\n"
	}
	isBody(t, text, body...)
}

// TestAnyTrees writes and compares trees that no parser returns: nothing is promised but that the functions return.
func TestAnyTrees(t *testing.T) {
	const most = 1<<63 - 1
	parts := []api.Expr{{}, number(-1), {Kind: api.ExprValue}, {Kind: api.ExprUnary, Op: most}, name("")}
	numbers := []int{-most - 1, -1, 12, 13, 14, 15, 99, most}
	for n := range 12 {
		numbers = append(numbers, n)
	}
	for _, kind := range numbers {
		for size := range parts {
			l := parts[:size:size]
			for _, op := range numbers {
				x := api.Expr{Kind: kind, Op: op, Value: op, Args: l}
				Expr(x)
				Expr(unary(api.OpNot, x))
				if !SameExpr(x, x) {
					t.Errorf("%v is not the same as itself", x)
				}
			}
			s := api.Stmt{Kind: kind, Exprs: l}
			s.Then, s.Else = []api.Stmt{s}, []api.Stmt{s, s}
			p := api.Source{Globals: []api.Global{{Size: kind}}, Funcs: []api.Func{{}, {Body: []api.Stmt{s, {}}}}}
			Format(p)
			if !Same(p, p) {
				t.Errorf("%v is not the same as itself", p)
			}
		}
	}
}
