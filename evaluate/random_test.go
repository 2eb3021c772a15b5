package evaluate

import (
	"fmt"
	"math/rand"
	"slices"
	"strings"
	"testing"

	"warmpath/api"
)

// maker writes random programs, of which many return or trap soon.
type maker struct {
	*rand.Rand
	locals   []string
	declared int
}

func (m *maker) one(texts ...string) string { return texts[m.Intn(len(texts))] }

func (m *maker) args(n, depth int) string {
	var l []string
	for range n {
		l = append(l, m.expr(depth))
	}
	return strings.Join(l, ", ")
}

// variable is the name of a local or a scalar.
func (m *maker) variable() string { return m.one(append([]string{"g", "h"}, m.locals...)...) }

func (m *maker) leaf() string {
	return m.one("0", "1", "2", "3", "9223372036854775807", "read", "read", "&f0", "&f1", "&f2", m.variable(), m.variable(), m.variable(), m.variable())
}

// element is the text of an element, whose index is seldom out of range.
func (m *maker) element(depth int) string {
	if m.Intn(8) == 0 {
		return m.one("a", "b", "c") + "[" + m.expr(depth) + "]"
	}
	return m.one("a[", "a[2 - ", "b[", "c[0 * ") + m.one("0", "1", "(0 < "+m.leaf()+")", "!"+m.leaf()) + "]"
}

// call is the text of a call, which seldom traps.
func (m *maker) call(depth int) string {
	f := m.Intn(3)
	switch args := m.args(f, depth); m.Intn(24) {
	case 0:
		return "(" + m.expr(depth) + ")(" + m.args(m.Intn(4), depth) + ")"
	case 1, 2, 3, 4:
		return fmt.Sprintf("&f%d(%s)", f, args)
	case 5, 6:
		return fmt.Sprintf("(%d)(%s)", f+1, args)
	default:
		return fmt.Sprintf("f%d(%s)", f, args)
	}
}

func (m *maker) expr(depth int) string {
	if depth <= 0 {
		return m.leaf()
	}
	depth--
	switch m.Intn(10) {
	case 0:
		return m.one("-", "!") + "(" + m.expr(depth) + ")"
	case 1, 2:
		return "(" + m.expr(depth) + ") " + m.one("+", "-", "*", "<", "<=", "==", "!=") + " (" + m.expr(depth) + ")"
	case 3:
		return "(" + m.expr(depth) + ") " + m.one("/", "%") + " " + m.one("2", "3", "-1", "("+m.expr(depth)+")")
	case 4:
		return "(" + m.expr(depth) + ") " + m.one("&&", "||") + " (" + m.expr(depth) + ")"
	case 5:
		return m.element(depth)
	case 6:
		return m.call(depth)
	}
	return m.leaf()
}

func (m *maker) block(depth int) string {
	var text strings.Builder
	text.WriteString("{ ")
	for range m.Intn(4) {
		text.WriteString(m.stmt(depth) + " ")
	}
	text.WriteString("}")
	return text.String()
}

// declaration is the text of a variable with a name of its own.
func (m *maker) declaration(value string) (name, text string) {
	name = fmt.Sprintf("v%d", m.declared)
	m.declared++
	m.locals = append(m.locals, name)
	return name, "var " + name + " = " + value + ";"
}

func (m *maker) stmt(depth int) string {
	value := m.expr(m.Intn(4))
	switch m.Intn(10) {
	case 0:
		if m.declared < api.MaxLocals-4 {
			_, text := m.declaration(value)
			return text
		}
	case 1:
		return m.element(1) + " = " + value + ";"
	case 2, 3:
		if depth > 0 {
			return m.branch(depth, value)
		}
	case 4, 5:
		if depth > 0 {
			return m.loop(depth, value)
		}
	case 6:
		return m.one("return ", "call ") + value + ";"
	case 7, 8:
		return "print " + value + ";"
	}
	return m.variable() + " = " + value + ";"
}

func (m *maker) branch(depth int, value string) string {
	text := "if " + value + " " + m.block(depth-1)
	if m.Intn(2) == 0 {
		text += " else " + m.block(depth-1)
	}
	return text
}

// loop is the text of a loop, which mostly ends.
func (m *maker) loop(depth int, value string) string {
	if m.Intn(8) == 0 || m.declared >= api.MaxLocals-4 {
		return "while " + value + " " + m.block(depth-1)
	}
	name, text := m.declaration(m.one("0", "1", value))
	return fmt.Sprintf("%s while %s < %d && (%s || 1) { %s = %s + 1; %s }", text, name, m.Intn(5), value, name, name, strings.Trim(m.block(depth-1), "{}"))
}

// source is the text of a program.
func (m *maker) source() string {
	text := "global g; global a[3]; global b[2]; global c[1]; global h;\n"
	for i, head := range []string{"main()", "f0()", "f1(p)", "f2(p, q)"} {
		m.locals, m.declared = [][]string{nil, nil, {"p"}, {"p", "q"}}[i], 0
		text += "func " + head + " " + m.block(3) + "\n"
	}
	return text
}

// The kinds of events.
const (
	stepBegins = iota
	numberPrinted
	functionEntered // with a depth
)

// event is something that happens in a run.
type event struct{ kind, value int }

// teller runs a program as the document says it, with names and without limits, and tells what happens.
type teller struct {
	p       api.Source
	globals map[string][]int
	input   []int
	most    int // steps
	steps   int
	events  []event
}

// told is what happens in a run until it ends, or has taken its most steps.
func told(p api.Source, input []int, most int) (events []event, steps int, last api.Outcome) {
	t := &teller{p: p, globals: map[string][]int{}, input: input, most: most}
	for _, g := range p.Globals {
		t.globals[g.Name] = make([]int, max(1, g.Size))
	}
	defer func() {
		if ended, ok := recover().(api.Outcome); ok {
			last = ended
		}
		events, steps = t.events, t.steps
	}()
	return nil, 0, api.Outcome{Kind: api.Returned, Value: t.call(0, nil, 1)}
}

func (t *teller) happens(kind, value int) {
	if kind == stepBegins {
		if t.steps == t.most {
			panic(api.Outcome{Kind: api.Exhausted})
		}
		t.steps++
	}
	t.events = append(t.events, event{kind, value})
}

func (t *teller) demand(right bool, trap int) {
	if !right {
		panic(api.Outcome{Kind: api.Trapped, Trap: trap})
	}
}

func (t *teller) call(number int, args []int, depth int) int {
	t.happens(functionEntered, depth)
	f := t.p.Funcs[number]
	locals := map[string]int{}
	for i, name := range f.Params {
		locals[name] = args[i]
	}
	value, _ := t.stmts(f.Body, locals, depth)
	return value
}

func (t *teller) stmts(l []api.Stmt, locals map[string]int, depth int) (value int, returns bool) {
	for _, s := range l {
		if value, returns = t.stmt(s, locals, depth); returns {
			return value, true
		}
	}
	return 0, false
}

func (t *teller) stmt(s api.Stmt, locals map[string]int, depth int) (value int, returns bool) {
	t.happens(stepBegins, 0)
	var values []int
	for _, x := range s.Exprs {
		values = append(values, t.expr(x, locals, depth))
	}
	switch s.Kind {
	case api.StmtVar:
		locals[s.Name] = values[0]
	case api.StmtAssign:
		if g, global := t.globals[s.Name]; global {
			g[0] = values[0]
		} else {
			locals[s.Name] = values[0]
		}
	case api.StmtStore:
		t.demand(values[0] >= 0 && values[0] < len(t.globals[s.Name]), api.TrapIndex)
		t.globals[s.Name][values[0]] = values[1]
	case api.StmtReturn:
		return values[0], true
	case api.StmtPrint:
		t.happens(numberPrinted, values[0])
	case api.StmtIf:
		if values[0] != 0 {
			return t.stmts(s.Then, locals, depth)
		}
		return t.stmts(s.Else, locals, depth)
	case api.StmtWhile:
		if values[0] == 0 {
			return 0, false
		}
		if value, returns = t.stmts(s.Then, locals, depth); returns {
			return value, true
		}
		return t.stmt(s, locals, depth)
	}
	return 0, false
}

func (t *teller) expr(x api.Expr, locals map[string]int, depth int) int {
	t.happens(stepBegins, 0)
	var values []int
	for i, arg := range x.Args {
		if i == 1 && (x.Kind == api.ExprAnd && values[0] == 0 || x.Kind == api.ExprOr && values[0] != 0) {
			break
		}
		values = append(values, t.expr(arg, locals, depth))
	}
	named := func(f api.Func) bool { return f.Name == x.Name }
	switch x.Kind {
	case api.ExprLocal:
		return locals[x.Name]
	case api.ExprGlobal:
		return t.globals[x.Name][0]
	case api.ExprElement:
		t.demand(values[0] >= 0 && values[0] < len(t.globals[x.Name]), api.TrapIndex)
		return t.globals[x.Name][values[0]]
	case api.ExprUnary:
		if x.Op == api.OpNegate {
			value, _ := exact(api.OpSubtract, 0, values[0])
			return value
		}
		value, _ := exact(api.OpEqual, 0, values[0])
		return value
	case api.ExprBinary:
		value, defined := exact(x.Op, values[0], values[1])
		t.demand(defined, api.TrapDivide)
		return value
	case api.ExprAnd, api.ExprOr:
		value, _ := exact(api.OpUnequal, 0, values[len(values)-1])
		return value
	case api.ExprCall:
		return t.call(slices.IndexFunc(t.p.Funcs, named), values, depth+1)
	case api.ExprValue:
		called, args := values[0], values[1:]
		t.demand(called >= 0 && called < len(t.p.Funcs) && len(args) == len(t.p.Funcs[called].Params), api.TrapValue)
		return t.call(called, args, depth+1)
	case api.ExprFunc:
		return slices.IndexFunc(t.p.Funcs, named)
	case api.ExprRead:
		if len(t.input) == 0 {
			return 0
		}
		value := t.input[0]
		t.input = t.input[1:]
		return value
	}
	return x.Value
}

// limited is the outcome and the steps of a run of which is told, with limits.
func limited(events []event, last api.Outcome, l api.Limit) (api.Outcome, int) {
	steps := 0
	var output []int
	for _, x := range events {
		switch {
		case x.kind == stepBegins && steps >= l.Steps, x.kind == functionEntered && x.value > min(l.Depth, api.MaxDepth), x.kind == numberPrinted && len(output) == api.MaxOutput:
			return api.Outcome{Kind: api.Exhausted, Output: output}, steps
		case x.kind == stepBegins:
			steps++
		case x.kind == numberPrinted:
			output = append(output, x.value)
		}
	}
	last.Output = output
	return last, steps
}

func TestRandomRuns(t *testing.T) {
	m := &maker{Rand: rand.New(rand.NewSource(1))}
	seen := map[string]int{}
	for range 4000 {
		text := m.source()
		p := resolved(t, text)
		input := []int{m.Intn(3), m.Intn(3), m.Intn(10) - 5, m.Intn(2), m.Intn(3), m.Intn(4)}[:m.Intn(7)]
		events, steps, last := told(p, input, 3000)
		limits := []api.Limit{{Steps: steps, Depth: api.MaxDepth}, {Steps: steps - 1, Depth: api.MaxDepth}, {Steps: steps, Depth: 0}, {Steps: steps, Depth: 1}, {Steps: steps, Depth: 2}, {Steps: steps, Depth: 3}, {Steps: steps, Depth: 4}}
		if last.Kind != api.Exhausted {
			limits = append(limits, api.Limit{Steps: steps + 1, Depth: api.MaxDepth}, api.Limit{Steps: 1 << 62, Depth: 1 << 62})
		}
		for range 10 {
			limits = append(limits, api.Limit{Steps: m.Intn(steps + 1), Depth: 1 + m.Intn(api.MaxDepth)})
		}
		for _, l := range limits {
			want, wantSteps := limited(events, last, l)
			got, gotSteps := Run(p, input, l)
			if fmt.Sprint(got) != fmt.Sprint(want) || gotSteps != wantSteps {
				t.Fatalf("%s%v, %v: %v, %d steps, not %v, %d", text, input, l, got, gotSteps, want, wantSteps)
			}
			seen[fmt.Sprint("kind ", got.Kind, ", trap ", got.Trap)]++
		}
		if steps >= 60 {
			seen["long"]++
		}
	}
	for _, what := range []string{"kind 1, trap 0", "kind 2, trap 1", "kind 2, trap 2", "kind 2, trap 3", "kind 3, trap 0", "long"} {
		if seen[what] < 250 {
			t.Errorf("%s: only %d times", what, seen[what])
		}
	}
}

// TestGreaterLimits compares runs of one program with each other.
func TestGreaterLimits(t *testing.T) {
	m := &maker{Rand: rand.New(rand.NewSource(2))}
	for range 1000 {
		text := m.source()
		p := resolved(t, text)
		less := api.Limit{Steps: m.Intn(300), Depth: m.Intn(6)}
		more := api.Limit{Steps: less.Steps + m.Intn(300), Depth: less.Depth + m.Intn(6)}
		a, steps := Run(p, []int{1, 2}, less)
		b, moreSteps := Run(p, []int{1, 2}, more)
		if !Refines(a, b) || len(a.Output) > len(b.Output) || steps > moreSteps || a.Kind != api.Exhausted && (!Same(a, b) || steps != moreSteps) {
			t.Fatalf("%s%v: %v, %d steps, but %v: %v, %d", text, less, a, steps, more, b, moreSteps)
		}
	}
}
