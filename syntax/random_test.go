package syntax

import (
	"math/rand"
	"strings"
	"testing"

	"warmpath/api"
)

// writer makes random trees and writes them as texts: what stands between tokens, and superfluous parentheses, are random too. Trees get their lines as they are written.
type writer struct {
	random *rand.Rand
	text   strings.Builder
	line   int
	plain  bool // one space between tokens, and no superfluous parentheses
}

// put writes a token, and returns its line.
func (w *writer) put(text string) int {
	gaps := []string{" ", "  ", "\t", "\n", " \n\n", "# c )(\n", "#\n#\n\t"}
	gap := gaps[0]
	if !w.plain {
		gap = gaps[w.random.Intn(len(gaps))]
	}
	w.text.WriteString(gap + text)
	w.line += strings.Count(gap, "\n")
	return w.line + 1
}

func (w *writer) name() string {
	return []string{"a", "b", "f", "x_1", "reader", "If"}[w.random.Intn(6)]
}

// strength is how strongly a tree binds: what binds less than its place demands stands in parentheses.
func strength(x api.Expr) int {
	switch x.Kind {
	case api.ExprOr:
		return 1
	case api.ExprAnd:
		return 2
	case api.ExprUnary:
		return 6
	case api.ExprCall, api.ExprValue:
		return 7
	case api.ExprBinary:
		switch x.Op {
		case api.OpAdd, api.OpSubtract:
			return 4
		case api.OpMultiply, api.OpDivide, api.OpModulo:
			return 5
		}
		return 3
	}
	return 8
}

func signOf(x api.Expr) string {
	switch x.Kind {
	case api.ExprOr:
		return "||"
	case api.ExprAnd:
		return "&&"
	}
	return []string{"", "-", "!", "+", "-", "*", "/", "%", "<", "<=", "==", "!="}[x.Op]
}

// tree is a random tree without lines.
func (w *writer) tree(depth int) api.Expr {
	if depth == 0 || w.random.Intn(6) == 0 {
		return w.leaf()
	}
	some := func(n int) (l []api.Expr) {
		for range n {
			l = append(l, w.tree(depth-1))
		}
		return l
	}
	switch w.random.Intn(10) {
	case 0:
		return element(0, w.name(), w.tree(depth-1))
	case 1:
		return call(0, w.name(), some(w.random.Intn(3))...)
	case 2:
		return callOf(0, w.tree(depth-1), some(w.random.Intn(3))...)
	case 3, 4:
		return unary(0, api.OpNegate+w.random.Intn(2), w.tree(depth-1))
	case 5:
		return both(0, w.tree(depth-1), w.tree(depth-1))
	case 6:
		return either(0, w.tree(depth-1), w.tree(depth-1))
	}
	return operation(0, api.OpAdd+w.random.Intn(9), w.tree(depth-1), w.tree(depth-1))
}

func (w *writer) leaf() api.Expr {
	switch w.random.Intn(4) {
	case 0:
		return number(0, w.random.Intn(3))
	case 1:
		return function(0, w.name())
	case 2:
		return read(0)
	}
	return name(0, w.name())
}

// expr writes a tree at a place that demands a strength.
func (w *writer) expr(x *api.Expr, demand int) {
	parentheses := 0
	if strength(*x) < demand {
		parentheses = 1
	}
	for !w.plain && w.random.Intn(8) == 0 {
		parentheses++
	}
	w.enclosed(x, parentheses)
}

func (w *writer) enclosed(x *api.Expr, parentheses int) {
	for range parentheses {
		w.put("(")
	}
	w.bare(x)
	for range parentheses {
		w.put(")")
	}
}

// list writes arguments and the parentheses around them, and returns the line of the first one.
func (w *writer) list(l []api.Expr) int {
	line := w.put("(")
	for i := range l {
		if i > 0 {
			w.put(",")
		}
		w.expr(&l[i], 0)
	}
	w.put(")")
	return line
}

// bare writes a tree without parentheses around it.
func (w *writer) bare(x *api.Expr) {
	switch x.Kind {
	case api.ExprNumber:
		x.Line = w.put(string(rune('0' + x.Value)))
	case api.ExprRead:
		x.Line = w.put("read")
	case api.ExprName:
		x.Line = w.put(x.Name)
	case api.ExprFunc:
		x.Line = w.put("&")
		w.put(x.Name)
	case api.ExprElement:
		x.Line = w.put(x.Name)
		w.put("[")
		w.expr(&x.Args[0], 0)
		w.put("]")
	case api.ExprUnary:
		x.Line = w.put(signOf(*x))
		w.expr(&x.Args[0], 6)
	case api.ExprCall:
		w.put(x.Name)
		x.Line = w.list(x.Args)
	case api.ExprValue:
		if x.Args[0].Kind == api.ExprName {
			w.enclosed(&x.Args[0], 1)
		} else {
			w.expr(&x.Args[0], 7)
		}
		x.Line = w.list(x.Args[1:])
	default:
		here := strength(*x)
		left := here
		if here == 3 { // comparisons do not follow each other
			left++
		}
		w.expr(&x.Args[0], left)
		x.Line = w.put(signOf(*x))
		w.expr(&x.Args[1], here+1)
	}
}

// value writes a random expression.
func (w *writer) value() api.Expr {
	x := w.tree(w.random.Intn(3))
	w.expr(&x, 0)
	return x
}

func (w *writer) block(depth int) (l []api.Stmt) {
	w.put("{")
	for w.random.Intn(4) > 0 {
		l = append(l, w.stmt(depth))
	}
	w.put("}")
	return l
}

func (w *writer) stmt(depth int) (s api.Stmt) {
	s.Kind = 1 + w.random.Intn(8)
	if depth == 0 && (s.Kind == api.StmtIf || s.Kind == api.StmtWhile) {
		s.Kind = api.StmtAssign
	}
	switch word := []string{"", "var", "", "", "if", "while", "return", "print", "call"}[s.Kind]; word {
	case "":
		s.Name = w.name()
		s.Line = w.put(s.Name)
	default:
		s.Line = w.put(word)
	}
	switch s.Kind {
	case api.StmtIf, api.StmtWhile:
		s.Exprs = []api.Expr{w.value()}
		s.Then = w.block(depth - 1)
		if s.Kind == api.StmtIf && w.random.Intn(2) == 0 {
			w.put("else")
			s.Else = w.block(depth - 1)
		}
		return s
	case api.StmtStore:
		w.put("[")
		s.Exprs = []api.Expr{w.value()}
		w.put("]")
		w.put("=")
	case api.StmtVar:
		s.Name = w.name()
		w.put(s.Name)
		w.put("=")
	case api.StmtAssign:
		w.put("=")
	}
	s.Exprs = append(s.Exprs, w.value())
	w.put(";")
	return s
}

func (w *writer) source() (p api.Source) {
	for w.random.Intn(4) > 0 {
		if w.random.Intn(2) == 0 {
			p.Globals = append(p.Globals, w.global())
		} else {
			p.Funcs = append(p.Funcs, w.function())
		}
	}
	return p
}

func (w *writer) global() api.Global {
	g := api.Global{Name: w.name()}
	w.put("global")
	w.put(g.Name)
	if w.random.Intn(2) == 0 {
		g.Size = 1 + w.random.Intn(9)
		w.put("[")
		w.put(string(rune('0' + g.Size)))
		w.put("]")
	}
	w.put(";")
	return g
}

func (w *writer) function() api.Func {
	f := api.Func{Name: w.name(), Line: w.put("func")}
	w.put(f.Name)
	w.put("(")
	for i := range w.random.Intn(4) {
		if i > 0 {
			w.put(",")
		}
		f.Params = append(f.Params, w.name())
		w.put(f.Params[i])
	}
	w.put(")")
	f.Body = w.block(2)
	return f
}

func TestRandomExprs(t *testing.T) {
	random := rand.New(rand.NewSource(2))
	for range 5000 {
		w := &writer{random: random}
		x := w.tree(random.Intn(6))
		w.expr(&x, 0)
		isExpr(t, w.text.String(), x)
	}
}

func TestRandomPrograms(t *testing.T) {
	random := rand.New(rand.NewSource(3))
	for range 1000 {
		w := &writer{random: random}
		p := w.source()
		isSource(t, w.text.String(), p)
	}
}

// TestOnlyLinesChange writes the same tree with and without what the tree does not show.
func TestOnlyLinesChange(t *testing.T) {
	random := rand.New(rand.NewSource(4))
	for range 1000 {
		wide, narrow := &writer{random: random}, &writer{random: random, plain: true}
		x := wide.tree(5)
		wide.expr(&x, 0)
		narrow.expr(&x, 0)
		got, _, e := ParseExpr(wide.text.String())
		onOneLine([]api.Expr{got})
		got.Line = 1
		if e != api.OK {
			t.Fatalf("%q: %d", wide.text.String(), e)
		}
		isExpr(t, narrow.text.String(), got)
	}
}

func onOneLine(l []api.Expr) {
	for i := range l {
		l[i].Line = 1
		onOneLine(l[i].Args)
	}
}
