package lower

import (
	"fmt"
	"slices"
	"testing"

	"warmpath/api"
	"warmpath/check"
)

// reader reads the blocks of a function as the document says that a source becomes them, and notes what is different.
type reader struct {
	p          api.Source
	f          api.Function
	locals     []string
	at         int // the block
	rest       []api.Instr
	greatest   int // register
	unexpected []string
}

// differences are those between a function of a program and what the document says of it.
func differences(p api.Source, f api.Function, number int) []string {
	source := p.Funcs[number]
	r := &reader{p: p, f: f, locals: check.Locals(source), at: -1}
	r.demand(f.Name == source.Name && f.Params == len(source.Params), "the function", f.Name, f.Params)
	r.begin(source.Line)
	if r.list(source.Body) {
		r.instr(api.Instr{Kind: api.InstrConst, Dst: len(r.locals)})
		r.end(api.TermReturn, len(r.locals))
	}
	r.demand(r.at == len(f.Blocks)-1, "the number of blocks", r.at)
	r.demand(f.Regs == r.greatest+1, "the registers", f.Regs)
	return r.unexpected
}

func (r *reader) demand(right bool, what ...any) {
	if !right {
		r.unexpected = append(r.unexpected, fmt.Sprintln(what...))
	}
}

// begin goes on in the next block, to which all of some ends lead.
func (r *reader) begin(line int, from ...int) {
	r.demand(len(r.rest) == 0, "the instructions", r.rest, "of the block", r.at)
	r.at++
	for _, to := range from {
		r.demand(to == r.at, "an end to", to, "and not to", r.at)
	}
	if r.at < len(r.f.Blocks) {
		r.demand(r.f.Blocks[r.at].Line == line, "the line", r.f.Blocks[r.at].Line, "of the block", r.at)
		r.rest = r.f.Blocks[r.at].Instrs
	}
}

func (r *reader) instr(want api.Instr) {
	r.greatest = max(r.greatest, want.Dst, want.A, want.B)
	if len(r.rest) == 0 {
		r.demand(false, "no instruction where there should be", want)
		return
	}
	r.demand(fmt.Sprint(r.rest[0]) == fmt.Sprint(want), "the instruction", r.rest[0], "and not", want)
	r.rest = r.rest[1:]
}

// end returns where the end of this block leads.
func (r *reader) end(kind, register int) (to, otherwise int) {
	if r.at >= len(r.f.Blocks) {
		return 0, 0
	}
	t := r.f.Blocks[r.at].Term
	r.demand(t.Kind == kind && t.A == register, "the end", t, "and not", kind, register)
	return t.To, t.Else
}

// list reports whether a list of statements reaches its end.
func (r *reader) list(l []api.Stmt) bool {
	for _, s := range l {
		r.stmt(s)
		if !reaches([]api.Stmt{s}) {
			return false
		}
	}
	return true
}

// reaches reports whether a list reaches its end, as the document defines it.
func reaches(l []api.Stmt) bool {
	return !slices.ContainsFunc(l, func(s api.Stmt) bool {
		return s.Kind == api.StmtReturn || s.Kind == api.StmtIf && len(s.Else) > 0 && !reaches(s.Then) && !reaches(s.Else)
	})
}

func (r *reader) global(name string) int {
	return slices.IndexFunc(r.p.Globals, func(g api.Global) bool { return g.Name == name })
}

func (r *reader) function(name string) int {
	return slices.IndexFunc(r.p.Funcs, func(f api.Func) bool { return f.Name == name })
}

func (r *reader) stmt(s api.Stmt) {
	value := len(r.locals)
	head := 0
	if s.Kind == api.StmtWhile {
		head, _ = r.end(api.TermJump, 0)
		r.begin(s.Line, head)
	}
	for i, x := range s.Exprs {
		r.expr(x, value+i)
	}
	local := slices.Index(r.locals, s.Name)
	switch s.Kind {
	case api.StmtVar, api.StmtAssign:
		if local >= 0 {
			r.instr(api.Instr{Kind: api.InstrMove, Dst: local, A: value})
		} else {
			r.instr(api.Instr{Kind: api.InstrStore, A: value, Value: r.global(s.Name)})
		}
	case api.StmtStore:
		r.instr(api.Instr{Kind: api.InstrSet, A: value, B: value + 1, Value: r.global(s.Name)})
	case api.StmtReturn:
		r.end(api.TermReturn, value)
	case api.StmtPrint:
		r.instr(api.Instr{Kind: api.InstrPrint, A: value})
	case api.StmtIf:
		r.choice(s)
	case api.StmtWhile:
		body, behind := r.end(api.TermBranch, value)
		r.begin(s.Line, body)
		if r.list(s.Then) {
			back, _ := r.end(api.TermJump, 0)
			r.demand(back == head, "back to", back, "and not to", head)
		}
		r.begin(s.Line, behind)
	}
}

func (r *reader) choice(s api.Stmt) {
	var toBehind []int
	then, otherwise := r.end(api.TermBranch, len(r.locals))
	r.begin(s.Line, then)
	if r.list(s.Then) {
		to, _ := r.end(api.TermJump, 0)
		toBehind = append(toBehind, to)
	}
	if len(s.Else) == 0 {
		toBehind = append(toBehind, otherwise)
	} else {
		r.begin(s.Line, otherwise)
		if r.list(s.Else) {
			to, _ := r.end(api.TermJump, 0)
			toBehind = append(toBehind, to)
		}
	}
	if len(toBehind) > 0 {
		r.begin(s.Line, toBehind...)
	}
}

func (r *reader) expr(x api.Expr, to int) {
	if x.Kind == api.ExprAnd || x.Kind == api.ExprOr {
		r.logic(x, to)
		return
	}
	operands := []int{}
	for i, arg := range x.Args {
		r.expr(arg, to+i)
		operands = append(operands, to+i)
	}
	switch x.Kind {
	case api.ExprNumber:
		r.instr(api.Instr{Kind: api.InstrConst, Dst: to, Value: x.Value})
	case api.ExprFunc:
		r.instr(api.Instr{Kind: api.InstrFunc, Dst: to, Value: r.function(x.Name)})
	case api.ExprLocal:
		r.instr(api.Instr{Kind: api.InstrMove, Dst: to, A: slices.Index(r.locals, x.Name)})
	case api.ExprGlobal:
		r.instr(api.Instr{Kind: api.InstrLoad, Dst: to, Value: r.global(x.Name)})
	case api.ExprRead:
		r.instr(api.Instr{Kind: api.InstrRead, Dst: to})
	case api.ExprElement:
		r.instr(api.Instr{Kind: api.InstrElement, Dst: to, A: to, Value: r.global(x.Name)})
	case api.ExprUnary:
		r.instr(api.Instr{Kind: api.InstrUnary, Op: x.Op, Dst: to, A: to})
	case api.ExprBinary:
		r.instr(api.Instr{Kind: api.InstrBinary, Op: x.Op, Dst: to, A: to, B: to + 1})
	case api.ExprCall:
		r.instr(api.Instr{Kind: api.InstrCall, Dst: to, Value: r.function(x.Name), Args: operands})
	case api.ExprValue:
		r.instr(api.Instr{Kind: api.InstrCallValue, Dst: to, A: to, Args: operands[1:]})
	}
}

func (r *reader) logic(x api.Expr, to int) {
	r.expr(x.Args[0], to)
	right, decided := r.end(api.TermBranch, to)
	if x.Kind == api.ExprOr {
		right, decided = decided, right
	}
	r.begin(x.Line, right)
	r.expr(x.Args[1], to)
	holds, fails := r.end(api.TermBranch, to)
	if x.Kind == api.ExprAnd {
		r.demand(decided == fails, "decided at", decided, "and not at", fails)
	} else {
		r.demand(decided == holds, "decided at", decided, "and not at", holds)
	}
	r.begin(x.Line, holds)
	r.instr(api.Instr{Kind: api.InstrConst, Dst: to, Value: 1})
	first, _ := r.end(api.TermJump, 0)
	r.begin(x.Line, fails)
	r.instr(api.Instr{Kind: api.InstrConst, Dst: to})
	second, _ := r.end(api.TermJump, 0)
	r.begin(x.Line, first, second)
}

// isAsDocumented checks all of what a program becomes.
func isAsDocumented(t *testing.T, text string, p api.Source, q api.Program) {
	t.Helper()
	if fmt.Sprint(q.Globals) != fmt.Sprint(p.Globals) || q.Callable != len(p.Funcs) || q.Counters != 0 || len(q.Funcs) != len(p.Funcs) {
		t.Fatalf("%s: %v", text, q)
	}
	for i := range p.Funcs {
		if l := differences(p, q.Funcs[i], i); len(l) > 0 {
			t.Fatalf("%s: the function %d: %s\n%v", text, i, writtenFunc(q.Funcs[i]), l)
		}
	}
	isClean(t, q)
}
