package pretty

import (
	"fmt"
	"math/rand"
	"reflect"
	"strings"
	"testing"

	"warmpath/api"
	"warmpath/syntax"
)

// maker makes random trees as the parser returns them, with lines of its own.
type maker struct{ *rand.Rand }

func (m maker) name() string { return []string{"a", "b", "f", "x_1", "reader", "Else"}[m.Intn(6)] }

func (m maker) number() int { return []int{0, 1, 10, 1<<63 - 1}[m.Intn(4)] }

func (m maker) exprs(n, depth int) (l []api.Expr) {
	for range n {
		l = append(l, m.expr(depth))
	}
	return l
}

func (m maker) expr(depth int) api.Expr {
	x := api.Expr{Kind: 1 + m.Intn(13), Line: m.Intn(100)}
	if depth == 0 {
		x.Kind = []int{api.ExprNumber, api.ExprName, api.ExprFunc, api.ExprRead}[m.Intn(4)]
	}
	switch x.Kind {
	case api.ExprNumber:
		x.Value = m.number()
	case api.ExprLocal, api.ExprGlobal:
		x.Kind, x.Name = api.ExprName, m.name()
	case api.ExprName, api.ExprFunc:
		x.Name = m.name()
	case api.ExprElement:
		x.Name, x.Args = m.name(), m.exprs(1, depth-1)
	case api.ExprUnary:
		x.Op, x.Args = api.OpNegate+m.Intn(2), m.exprs(1, depth-1)
	case api.ExprBinary:
		x.Op, x.Args = api.OpAdd+m.Intn(9), m.exprs(2, depth-1)
	case api.ExprAnd, api.ExprOr:
		x.Args = m.exprs(2, depth-1)
	case api.ExprCall:
		x.Name, x.Args = m.name(), m.exprs(m.Intn(4), depth-1)
	case api.ExprValue:
		x.Args = m.exprs(1+m.Intn(3), depth-1)
	}
	return x
}

func (m maker) stmts(depth int) (l []api.Stmt) {
	for m.Intn(4) > 0 {
		l = append(l, m.stmt(depth))
	}
	return l
}

func (m maker) stmt(depth int) api.Stmt {
	s := api.Stmt{Kind: 1 + m.Intn(8), Line: m.Intn(100), Exprs: m.exprs(1, m.Intn(4))}
	if depth == 0 && (s.Kind == api.StmtIf || s.Kind == api.StmtWhile) {
		s.Kind = api.StmtReturn
	}
	switch s.Kind {
	case api.StmtVar, api.StmtAssign:
		s.Name = m.name()
	case api.StmtStore:
		s.Name, s.Exprs = m.name(), append(s.Exprs, m.expr(2))
	case api.StmtIf:
		s.Then, s.Else = m.stmts(depth-1), m.stmts(depth-1)
	case api.StmtWhile:
		s.Then = m.stmts(depth - 1)
	}
	return s
}

func (m maker) source() (p api.Source) {
	for range m.Intn(4) {
		p.Globals = append(p.Globals, api.Global{Name: m.name(), Size: m.Intn(3) * m.Intn(api.MaxArray/2+1)})
	}
	for range m.Intn(4) {
		f := api.Func{Name: m.name(), Line: m.Intn(100), Body: m.stmts(3)}
		for range m.Intn(4) {
			f.Params = append(f.Params, m.name())
		}
		p.Funcs = append(p.Funcs, f)
	}
	return p
}

// withoutLines takes the lines out of a tree, and returns it as a text, in which no list is an empty list.
func withoutLines[T any](x T) string {
	parts(reflect.ValueOf(&x).Elem(), "", func(v reflect.Value, field string) {
		if field == "Line" {
			v.SetInt(0)
		}
	})
	return fmt.Sprint(x)
}

// isReadBack checks that parsing what was written of a tree gives the same tree, and the same text again.
func isReadBack[T any](t *testing.T, x T, write func(T) string, parse func(string) (T, int, api.Errno), same func(a, b T) bool) {
	t.Helper()
	before := fmt.Sprint(x)
	text := write(x)
	y, _, e := parse(text)
	if e != api.OK || !same(x, y) || write(y) != text {
		t.Fatalf("%q: %d, %q", text, e, write(y))
	}
	if fmt.Sprint(x) != before {
		t.Fatalf("%q: the tree was changed", text)
	}
	if withoutLines(x) != withoutLines(y) {
		t.Fatalf("%q: another tree", text)
	}
}

func TestTreesAreReadBack(t *testing.T) {
	m := maker{rand.New(rand.NewSource(1))}
	for range 5000 {
		isReadBack(t, m.expr(4), Expr, syntax.ParseExpr, SameExpr)
	}
	for range 2000 {
		isReadBack(t, m.source(), Format, syntax.Parse, Same)
	}
}

// TestLinesOfText checks the shape of a text: one statement a line, behind as many tabs as there are blocks around it.
func TestLinesOfText(t *testing.T) {
	m := maker{rand.New(rand.NewSource(3))}
	for range 500 {
		text := Format(m.source())
		depth := 0
		for line := range strings.Lines(text) {
			bare := strings.TrimLeft(line, "\t")
			if strings.HasPrefix(bare, "}") {
				depth--
			}
			if len(line)-len(bare) != depth {
				t.Fatalf("%d blocks around %q in %q", depth, line, text)
			}
			if strings.Count(bare, ";") > 1 || strings.ContainsAny(bare, "\t") || strings.Contains(bare, "  ") {
				t.Fatalf("%q in %q", line, text)
			}
			switch ending := strings.TrimSuffix(bare, "\n"); {
			case strings.HasSuffix(ending, " {"):
				depth++
			case ending != "}" && !strings.HasSuffix(ending, ";") || ending == bare:
				t.Fatalf("%q in %q", line, text)
			}
		}
		if depth != 0 {
			t.Fatalf("%d blocks are open behind %q", depth, text)
		}
	}
}

// TestResolvedTreesHaveTheSameText gives names the kinds that they get from check.Resolve.
func TestResolvedTreesHaveTheSameText(t *testing.T) {
	m := maker{rand.New(rand.NewSource(4))}
	for range 1000 {
		p := m.source()
		text := Format(p)
		resolved := 0
		parts(reflect.ValueOf(&p).Elem(), "", func(v reflect.Value, field string) {
			if field == "Kind" && v.Int() == api.ExprName {
				v.SetInt(int64(api.ExprLocal + m.Intn(2)))
				resolved++
			}
		})
		if Format(p) != text {
			t.Fatalf("%q, not %q", Format(p), text)
		}
		if q, _, _ := syntax.Parse(text); Same(p, q) != (resolved == 0) {
			t.Fatalf("%q with %d resolved names", text, resolved)
		}
	}
}

// TestRoomOfSlices lays what belongs to somebody else behind the slices of a tree.
func TestRoomOfSlices(t *testing.T) {
	whole := []api.Expr{name("x"), name("y"), name("mine")}
	x := api.Expr{Kind: api.ExprCall, Name: "f", Args: whole[:2]}
	y := api.Expr{Kind: api.ExprValue, Args: whole[:1]}
	params := []string{"a", "b", "mine"}
	p := api.Source{Funcs: []api.Func{{Name: "f", Params: params[:1], Body: []api.Stmt{{Kind: api.StmtReturn, Exprs: whole[:1]}}}}}
	before := fmt.Sprint(whole, params)
	isText(t, x, "f(x, y)")
	isText(t, y, "(x)()")
	isProgram(t, p, "func f(a) {\n\treturn x;\n}\n")
	if !SameExpr(x, x) || !Same(p, p) || fmt.Sprint(whole, params) != before {
		t.Errorf("%v %v, not %s", whole, params, before)
	}
}
