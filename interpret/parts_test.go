package interpret

import (
	"fmt"
	"testing"

	"warmpath/api"
	"warmpath/check"
	"warmpath/flow"
	"warmpath/lower"
	"warmpath/syntax"
)

const (
	least    = -1 << 63
	greatest = 1<<63 - 1
)

// ample is a limit that no short run reaches.
var ample = api.Limit{Steps: 1 << 20, Depth: api.MaxDepth}

func constant(dst, value int) api.Instr {
	return api.Instr{Kind: api.InstrConst, Dst: dst, Value: value}
}

func function(dst, number int) api.Instr {
	return api.Instr{Kind: api.InstrFunc, Dst: dst, Value: number}
}

func move(dst, a int) api.Instr { return api.Instr{Kind: api.InstrMove, Dst: dst, A: a} }

func unary(dst, op, a int) api.Instr {
	return api.Instr{Kind: api.InstrUnary, Op: op, Dst: dst, A: a}
}

func binary(dst, a, op, b int) api.Instr {
	return api.Instr{Kind: api.InstrBinary, Op: op, Dst: dst, A: a, B: b}
}

func load(dst, scalar int) api.Instr {
	return api.Instr{Kind: api.InstrLoad, Dst: dst, Value: scalar}
}

func store(scalar, a int) api.Instr { return api.Instr{Kind: api.InstrStore, Value: scalar, A: a} }

func element(dst, array, index int) api.Instr {
	return api.Instr{Kind: api.InstrElement, Dst: dst, Value: array, A: index}
}

func set(array, index, b int) api.Instr {
	return api.Instr{Kind: api.InstrSet, Value: array, A: index, B: b}
}

func read(dst int) api.Instr { return api.Instr{Kind: api.InstrRead, Dst: dst} }

func printed(a int) api.Instr { return api.Instr{Kind: api.InstrPrint, A: a} }

func count(counter int) api.Instr { return api.Instr{Kind: api.InstrCount, Value: counter} }

func call(dst, number int, args ...int) api.Instr {
	return api.Instr{Kind: api.InstrCall, Dst: dst, Value: number, Args: args}
}

func callOf(dst, a int, args ...int) api.Instr {
	return api.Instr{Kind: api.InstrCallValue, Dst: dst, A: a, Args: args}
}

func jump(to int) api.Term { return api.Term{Kind: api.TermJump, To: to} }

func branch(a, to, other int) api.Term {
	return api.Term{Kind: api.TermBranch, A: a, To: to, Else: other}
}

func give(a int) api.Term { return api.Term{Kind: api.TermReturn, A: a} }

func block(end api.Term, l ...api.Instr) api.Block { return api.Block{Instrs: l, Term: end} }

func of(params, regs int, l ...api.Block) api.Function {
	return api.Function{Params: params, Regs: regs, Blocks: l}
}

// program is a program without globals and counters, whose functions are all callable.
func program(l ...api.Function) api.Program { return api.Program{Funcs: l, Callable: len(l)} }

// right is a program that has to be right.
func right(t *testing.T, p api.Program) api.Program {
	t.Helper()
	if e := flow.Check(p); e != api.OK {
		t.Fatalf("error %d of %v", e, p)
	}
	return p
}

// resolved is the resolved program of a text.
func resolved(t *testing.T, text string) api.Source {
	t.Helper()
	p, line, e := syntax.Parse(text)
	if e == api.OK {
		p, line, e = check.Resolve(p)
	}
	if e != api.OK {
		t.Fatalf("%.300s: line %d, %d", text, line, e)
	}
	return p
}

// lowered is the control flow of a text.
func lowered(t *testing.T, text string) api.Program {
	t.Helper()
	p, e := lower.Lower(resolved(t, text))
	if e != api.OK {
		t.Fatalf("%.300s: error %d", text, e)
	}
	return right(t, p)
}

func returned(value int, output ...int) api.Outcome {
	return api.Outcome{Kind: api.Returned, Value: value, Output: output}
}

func trapped(trap int, output ...int) api.Outcome {
	return api.Outcome{Kind: api.Trapped, Trap: trap, Output: output}
}

func exhausted(output ...int) api.Outcome {
	return api.Outcome{Kind: api.Exhausted, Output: output}
}

// counted are the counts of a function.
func counted(entries int, blocks []int, edges [][2]int, sites ...api.Site) api.FuncCounts {
	return api.FuncCounts{Entries: entries, Blocks: blocks, Edges: edges, Sites: sites}
}

func counts(l ...api.FuncCounts) api.Counts { return api.Counts{Funcs: l} }

// site is a site with pairs of targets and counts.
func site(block, instr int, pairs ...int) api.Site {
	s := api.Site{Block: block, Instr: instr}
	for i := 0; i < len(pairs); i += 2 {
		s.Targets = append(s.Targets, api.Target{Func: pairs[i], Count: pairs[i+1]})
	}
	return s
}

// isRun checks all that is said of a run.
func isRun(t *testing.T, p api.Program, input []int, l api.Limit, want api.Run) {
	t.Helper()
	got := Run(right(t, p), input, l)
	if fmt.Sprint(got) != fmt.Sprint(want) {
		t.Errorf("%.500s\n%.100s, %v:\n%.500s, not\n%.500s", fmt.Sprint(p), fmt.Sprint(input), l, fmt.Sprint(got), fmt.Sprint(want))
	}
	if !Fits(p, got.Counts) || !Conserved(p, got) {
		t.Errorf("%.500s: the counts %.500s fit: %t, are conserved: %t", fmt.Sprint(p), fmt.Sprint(got), Fits(p, got.Counts), Conserved(p, got))
	}
}

// ends checks how a run ends, and how many steps it takes.
func ends(t *testing.T, p api.Program, input []int, l api.Limit, want api.Outcome, steps int) {
	t.Helper()
	got := Run(right(t, p), input, l)
	if fmt.Sprint(got.Outcome) != fmt.Sprint(want) || got.Steps != steps {
		t.Errorf("%.500s\n%.100s, %v: %.300s, %d steps, not %.300s, %d", fmt.Sprint(p), fmt.Sprint(input), l, fmt.Sprint(got.Outcome), got.Steps, fmt.Sprint(want), steps)
	}
	if !Fits(p, got.Counts) || !Conserved(p, got) {
		t.Errorf("%.500s: the counts %.500s fit: %t, are conserved: %t", fmt.Sprint(p), fmt.Sprint(got), Fits(p, got.Counts), Conserved(p, got))
	}
}

// gives checks what a function 0 with such instructions returns from the register 0, of 4.
func gives(t *testing.T, want api.Outcome, steps int, l ...api.Instr) {
	t.Helper()
	p := api.Program{Globals: []api.Global{{}, {Size: 2}, {}, {Size: 1}}, Funcs: []api.Function{of(0, 4, block(give(0), l...))}, Callable: 1, Counters: 1}
	ends(t, p, []int{5, -6}, ample, want, steps)
}
