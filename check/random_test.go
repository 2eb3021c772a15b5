package check

import (
	"fmt"
	"math/rand"
	"reflect"
	"slices"
	"strconv"
	"strings"
	"testing"

	"warmpath/api"
)

// maker makes random programs without errors as the parser returns them, and what they become. Their lines are numbers in the order in which errors are considered.
type maker struct {
	*rand.Rand
	line                       int
	scalars, arrays, functions []string
	arity                      map[string]int
	locals                     []string // which can be used here
	declared                   int
}

func newMaker(seed int64) *maker {
	return &maker{Rand: rand.New(rand.NewSource(seed)), arity: map[string]int{}}
}

func (m *maker) next() int {
	m.line++
	return m.line
}

func (m *maker) one(names []string) string { return names[m.Intn(len(names))] }

// names are n names with a number behind a letter.
func names(letter string, n int) (l []string) {
	for i := range n {
		l = append(l, letter+strconv.Itoa(i))
	}
	return l
}

// variable is the name of a local or a scalar, and the kind of its expression.
func (m *maker) variable() (name string, kind int) {
	if len(m.locals) > 0 && m.Intn(3) > 0 {
		return m.one(m.locals), api.ExprLocal
	}
	return m.one(m.scalars), api.ExprGlobal
}

func (m *maker) exprs(n, depth int) (before, after []api.Expr) {
	for range n {
		x, y := m.expr(depth)
		before, after = append(before, x), append(after, y)
	}
	return before, after
}

// expr is an expression before and after its names are resolved.
func (m *maker) expr(depth int) (before, after api.Expr) {
	x := api.Expr{Kind: 1 + m.Intn(13), Line: m.next()}
	if depth == 0 {
		x.Kind = []int{api.ExprNumber, api.ExprName, api.ExprFunc, api.ExprRead}[m.Intn(4)]
	}
	size := 0
	y := x
	switch x.Kind {
	case api.ExprNumber:
		x.Value = m.Intn(100)
		return x, x
	case api.ExprRead:
		return x, x
	case api.ExprLocal, api.ExprGlobal, api.ExprName:
		x.Kind = api.ExprName
		x.Name, y.Kind = m.variable()
		y.Name = x.Name
		return x, y
	case api.ExprFunc:
		x.Name = m.one(m.functions)
		return x, x
	case api.ExprElement:
		x.Name, size = m.one(m.arrays), 1
	case api.ExprUnary:
		x.Op, size = api.OpNegate+m.Intn(2), 1
	case api.ExprBinary:
		x.Op, size = api.OpAdd+m.Intn(9), 2
	case api.ExprAnd, api.ExprOr:
		size = 2
	case api.ExprCall:
		if m.Intn(2) == 0 {
			return m.callOfVariable(x, depth-1)
		}
		x.Name = m.one(m.functions)
		size = m.arity[x.Name]
	case api.ExprValue:
		size = 1 + m.Intn(1+api.MaxParams)
	}
	y = x
	x.Args, y.Args = m.exprs(size, depth-1)
	return x, y
}

// callOfVariable is a call of what a variable is, without parentheses around its name.
func (m *maker) callOfVariable(x api.Expr, depth int) (before, after api.Expr) {
	name, kind := m.variable()
	called := api.Expr{Kind: kind, Name: name, Line: x.Line}
	y := api.Expr{Kind: api.ExprValue, Line: x.Line}
	x.Name = name
	x.Args, y.Args = m.exprs(m.Intn(1+api.MaxParams), depth)
	y.Args = append([]api.Expr{called}, y.Args...)
	return x, y
}

func (m *maker) stmts(depth int) (before, after []api.Stmt) {
	for m.Intn(4) > 0 {
		s, r := m.stmt(depth)
		before, after = append(before, s), append(after, r)
	}
	return before, after
}

func (m *maker) stmt(depth int) (before, after api.Stmt) {
	s := api.Stmt{Kind: 1 + m.Intn(8)}
	if depth == 0 && (s.Kind == api.StmtIf || s.Kind == api.StmtWhile) || s.Kind == api.StmtVar && m.declared == api.MaxLocals {
		s.Kind = api.StmtReturn
	}
	size := 1
	if s.Kind == api.StmtStore {
		size = 2
	}
	r := s
	s.Exprs, r.Exprs = m.exprs(size, m.Intn(4))
	s.Line = m.next()
	switch s.Kind {
	case api.StmtVar:
		s.Name = "v" + strconv.Itoa(m.declared)
		m.declared++
		m.locals = append(m.locals, s.Name)
	case api.StmtAssign:
		s.Name, _ = m.variable()
	case api.StmtStore:
		s.Name = m.one(m.arrays)
	case api.StmtIf:
		s.Then, r.Then = m.stmts(depth - 1)
		s.Else, r.Else = m.stmts(depth - 1)
	case api.StmtWhile:
		s.Then, r.Then = m.stmts(depth - 1)
	}
	r.Line, r.Name = s.Line, s.Name
	return s, r
}

// source is a program before and after its names are resolved. It has at least one name of each kind.
func (m *maker) source() (before, after api.Source) {
	m.scalars, m.arrays = names("s", 1+m.Intn(3)), names("a", 1+m.Intn(3))
	for _, name := range m.scalars {
		before.Globals = append(before.Globals, api.Global{Name: name})
	}
	for _, name := range m.arrays {
		before.Globals = append(before.Globals, api.Global{Name: name, Size: 1 + m.Intn(api.MaxArray)})
	}
	m.Shuffle(len(before.Globals), func(i, j int) {
		before.Globals[i], before.Globals[j] = before.Globals[j], before.Globals[i]
	})
	m.functions = append([]string{"main"}, names("f", m.Intn(4))...)
	for _, name := range m.functions[1:] {
		m.arity[name] = m.Intn(1 + api.MaxParams)
	}
	after.Globals = before.Globals
	for _, name := range m.functions {
		f := api.Func{Name: name, Line: m.next(), Params: names("p", m.arity[name])}
		g := f
		m.locals, m.declared = slices.Clone(f.Params), len(f.Params)
		f.Body, g.Body = m.stmts(3)
		before.Funcs, after.Funcs = append(before.Funcs, f), append(after.Funcs, g)
	}
	return before, after
}

func TestRandomPrograms(t *testing.T) {
	m := newMaker(1)
	names := 0
	for range 1000 {
		before, want := m.source()
		text := fmt.Sprint(before)
		q, line, e := Resolve(before)
		if fmt.Sprint(q) != fmt.Sprint(want) || line != 0 || e != api.OK {
			t.Fatalf("%s: %v, not %v, line %d, %d", text, q, want, line, e)
		}
		if fmt.Sprint(before) != text {
			t.Fatalf("%s: the program was changed", text)
		}
		if q, line, e = Resolve(q); fmt.Sprint(q) != fmt.Sprint(want) || line != 0 || e != api.OK {
			t.Fatalf("%s: resolved twice, it is %v, line %d, %d", text, q, line, e)
		}
		eachExpr(&want, func(x *api.Expr) {
			if x.Kind == api.ExprLocal || x.Kind == api.ExprGlobal {
				names++
			}
		})
		eachExpr(&q, func(x *api.Expr) {
			if x.Kind == api.ExprName {
				t.Fatalf("%s: %s is not resolved", text, x.Name)
			}
		})
	}
	if names < 10000 {
		t.Errorf("only %d names", names)
	}
}

// eachExpr visits all expressions of a program.
func eachExpr(p *api.Source, visit func(*api.Expr)) {
	eachPlace(p, func(place place) {
		if place.x != nil {
			visit(place.x)
		}
	})
}

// place is where an error can be: in a function, a statement or an expression.
type place struct {
	f         *api.Func
	s         *api.Stmt
	x         *api.Expr
	outermost bool
}

// eachPlace visits all places in the order of their lines.
func eachPlace(p *api.Source, visit func(place)) {
	var exprs func(l []api.Expr, outermost bool)
	exprs = func(l []api.Expr, outermost bool) {
		for i := range l {
			visit(place{x: &l[i], outermost: outermost})
			exprs(l[i].Args, false)
		}
	}
	var stmts func(l []api.Stmt)
	stmts = func(l []api.Stmt) {
		for i := range l {
			exprs(l[i].Exprs, true)
			visit(place{s: &l[i]})
			stmts(l[i].Then)
			stmts(l[i].Else)
		}
	}
	for i := range p.Funcs {
		visit(place{f: &p.Funcs[i]})
		stmts(p.Funcs[i].Body)
	}
}

func (p place) line() int {
	switch {
	case p.f != nil:
		return p.f.Line
	case p.s != nil:
		return p.s.Line
	}
	return p.x.Line
}

// spoil makes one error in a place, if it can have any.
func (m *maker) spoil(p place) api.Errno {
	switch {
	case p.f != nil:
		return m.spoilFunc(p.f)
	case p.s != nil:
		return m.spoilStmt(p.s)
	case p.outermost && m.Intn(4) == 0:
		for range api.MaxHeight {
			*p.x = api.Expr{Kind: api.ExprUnary, Op: api.OpNot, Line: p.x.Line, Args: []api.Expr{*p.x}}
		}
		return api.ErrLimit
	}
	return m.spoilExpr(p.x)
}

func (m *maker) spoilFunc(f *api.Func) api.Errno {
	switch m.Intn(3) {
	case 0:
		var l []api.Stmt
		for range api.MaxNesting + 1 {
			l = []api.Stmt{{Kind: api.StmtWhile, Then: l}}
		}
		f.Body = append(f.Body, l...)
		return api.ErrLimit
	case 1:
		for _, name := range names("w", api.MaxLocals+1-len(f.Params)) {
			f.Body = append(f.Body, api.Stmt{Kind: api.StmtVar, Name: name})
		}
		return api.ErrLimit
	}
	if len(f.Params) == 0 {
		return api.OK
	}
	f.Params = slices.Clone(f.Params)
	i := m.Intn(len(f.Params))
	f.Params[i] = m.one(slices.Concat(m.scalars, m.arrays, m.functions, f.Params[:i]))
	return api.ErrTwice
}

func (m *maker) spoilStmt(s *api.Stmt) api.Errno {
	switch s.Kind {
	case api.StmtVar:
		s.Name = m.one(slices.Concat(m.scalars, m.arrays, m.functions))
		return api.ErrTwice
	case api.StmtAssign:
		return m.spoilName(&s.Name, m.arrays, m.functions)
	case api.StmtStore:
		return m.spoilName(&s.Name, m.scalars, m.functions)
	}
	return api.OK
}

// spoilName takes a name that is unknown, or of another kind.
func (m *maker) spoilName(name *string, others ...[]string) api.Errno {
	if m.Intn(2) == 0 {
		*name = "nobody"
		return api.ErrName
	}
	*name = m.one(slices.Concat(others...))
	return api.ErrKind
}

func (m *maker) spoilExpr(x *api.Expr) api.Errno {
	switch x.Kind {
	case api.ExprName:
		return m.spoilName(&x.Name, m.arrays, m.functions)
	case api.ExprElement:
		return m.spoilName(&x.Name, m.scalars, m.functions)
	case api.ExprFunc:
		return m.spoilName(&x.Name, m.scalars, m.arrays)
	case api.ExprValue:
		x.Args = append(slices.Clone(x.Args), make([]api.Expr, 1+api.MaxParams)...)
		return api.ErrLimit
	case api.ExprCall:
		if m.Intn(2) == 0 {
			return m.spoilName(&x.Name, m.arrays)
		}
		x.Args = append(slices.Clone(x.Args), make([]api.Expr, 1+api.MaxParams)...)
		if slices.Contains(m.functions, x.Name) {
			return api.ErrArity
		}
		return api.ErrLimit
	}
	return api.OK
}

// TestRandomErrors makes errors in programs that had none: the first one applies.
func TestRandomErrors(t *testing.T) {
	m := newMaker(2)
	seen := map[api.Errno]int{}
	for range 4000 {
		p, _ := m.source()
		var places []place
		eachPlace(&p, func(x place) { places = append(places, x) })
		chance := []int{2, 10, 60}[m.Intn(3)]
		line, want := 0, api.OK
		// The last places come first: what is ahead of them may copy them.
		for _, x := range slices.Backward(places) {
			if m.Intn(chance) > 0 {
				continue
			}
			if e := m.spoil(x); e != api.OK {
				line, want = x.line(), e
			}
		}
		seen[want]++
		if want == api.OK {
			isRight(t, p)
		} else {
			isWrong(t, p, line, want)
		}
	}
	for _, e := range []api.Errno{api.OK, api.ErrLimit, api.ErrTwice, api.ErrName, api.ErrKind, api.ErrArity} {
		if seen[e] < 20 {
			t.Errorf("error %d: only %d times", e, seen[e])
		}
	}
}

// renamed gives a local of a function another name.
func renamed(p api.Source, function int, from, to string) {
	f := p.Funcs[function]
	for i := range f.Params {
		if f.Params[i] == from {
			f.Params[i] = to
		}
	}
	only := api.Source{Funcs: []api.Func{f}}
	eachPlace(&only, func(x place) {
		switch {
		case x.s != nil && x.s.Name == from:
			x.s.Name = to
		case x.x != nil && x.x.Name == from:
			x.x.Name = to
		}
	})
}

func TestRenamedLocals(t *testing.T) {
	m := newMaker(3)
	for range 500 {
		p, _ := m.source()
		q, _, _ := Resolve(p)
		for i, f := range q.Funcs {
			for _, name := range Locals(f) {
				renamed(p, i, name, "another_"+name)
				renamed(q, i, name, "another_"+name)
			}
		}
		if got, line, e := Resolve(p); fmt.Sprint(got) != fmt.Sprint(q) || line != 0 || e != api.OK {
			t.Fatalf("%v, not %v, line %d, %d", got, q, line, e)
		}
	}
}

// span is the memory of a slice, with its room.
type span struct{ from, to uintptr }

// spans collects the memory of all slices of a value.
func spans(v reflect.Value, l []span) []span {
	switch v.Kind() {
	case reflect.Struct:
		for i := range v.NumField() {
			l = spans(v.Field(i), l)
		}
	case reflect.Slice:
		if v.Cap() > 0 {
			l = append(l, span{v.Pointer(), v.Pointer() + uintptr(v.Cap())*v.Type().Elem().Size()})
		}
		for i := range v.Len() {
			l = spans(v.Index(i), l)
		}
	}
	return l
}

func TestNoSharedMemory(t *testing.T) {
	m := newMaker(4)
	for range 300 {
		p, _ := m.source()
		q, _, _ := Resolve(p)
		l := slices.Concat(spans(reflect.ValueOf(q), nil), spans(reflect.ValueOf(p), nil))
		slices.SortFunc(l, func(a, b span) int { return int(a.from) - int(b.from) })
		for i := range l[1:] {
			if l[i].to > l[i+1].from {
				t.Fatalf("slices of %v share memory", q)
			}
		}
	}
}

// TestRoomOfSlices lays what belongs to somebody else behind the slices of a tree.
func TestRoomOfSlices(t *testing.T) {
	mine := api.Expr{Kind: api.ExprName, Name: "mine"}
	args := []api.Expr{{Kind: api.ExprName, Name: "f"}, mine, mine}
	exprs := []api.Expr{{Kind: api.ExprCall, Name: "f", Args: args[:1]}, mine, mine}
	body := []api.Stmt{{Kind: api.StmtVar, Name: "f", Exprs: []api.Expr{{Kind: api.ExprRead}}}, {Kind: api.StmtPrint, Exprs: exprs[:1]}, {Name: "mine"}, {Name: "mine"}}
	params := []string{"x", "mine", "mine"}
	funcs := []api.Func{{Name: "main", Body: body[:2]}, {Name: "g", Params: params[:1]}, {Name: "mine"}}
	globals := []api.Global{{Name: "s"}, {Name: "mine"}}
	before := fmt.Sprint(args, exprs, body, params, funcs, globals)
	q, line, e := Resolve(api.Source{Globals: globals[:1], Funcs: funcs[:2]})
	if e != api.OK || line != 0 || len(q.Globals) != 1 || len(q.Funcs) != 2 {
		t.Fatalf("%v, line %d, %d", q, line, e)
	}
	q.Globals[0].Name, q.Funcs[1].Params[0], q.Funcs[0].Body[1].Exprs[0].Args[1].Name = "forged", "forged", "forged"
	if after := fmt.Sprint(args, exprs, body, params, funcs, globals); after != before {
		t.Errorf("%s, not %s", after, before)
	}
}

// TestAnyTrees resolves trees that no parser returns: nothing is promised but that the function returns.
func TestAnyTrees(t *testing.T) {
	main := api.Func{Name: "main"}
	for kind := -1; kind < 20; kind++ {
		for size := range 9 {
			x := api.Expr{Kind: kind, Op: -1, Name: []string{"", "main", "g", "a"}[size%4]}
			x.Args = slices.Repeat([]api.Expr{x}, size)
			for statement := range 10 {
				main.Body = []api.Stmt{{Kind: statement, Name: x.Name, Exprs: []api.Expr{x}}, {Kind: statement}}
				main.Body[1].Then = main.Body[:1]
				Resolve(api.Source{Globals: []api.Global{{Name: "g"}, {Name: "a", Size: -1}}, Funcs: []api.Func{main}})
			}
		}
	}
}

// TestLongTexts resolves texts that are as long as they can be.
func TestLongTexts(t *testing.T) {
	for piece, want := range map[string]api.Errno{"x=1;": api.ErrName, "call x();": api.ErrName, "var x=1;": api.ErrLimit, "if 1{}": api.OK, "print -1;": api.OK, "call main();": api.OK} {
		p := parsed(t, "func main(){"+strings.Repeat(piece, (api.MaxSource-20)/len(piece))+"}")
		if _, _, e := Resolve(p); e != want {
			t.Errorf("%s: %d", piece, e)
		}
	}
}
