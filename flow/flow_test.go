package flow

import (
	"cmp"
	"fmt"
	"slices"
	"testing"

	"warmpath/api"
)

// known is a program that is right, with all kinds of instructions and ends. Its function 0 has a block for them, and its functions have 0, 2 and 1 parameters.
func known() api.Program {
	all := []api.Instr{
		{Kind: api.InstrConst, Dst: 2, Value: -7}, {Kind: api.InstrMove, Dst: 1, A: 2}, {Kind: api.InstrUnary, Op: api.OpNot, Dst: 2, A: 1}, {Kind: api.InstrBinary, Op: api.OpModulo, Dst: 2, A: 1, B: 0},
		{Kind: api.InstrLoad, Dst: 2, Value: 0}, {Kind: api.InstrStore, A: 2, Value: 2}, {Kind: api.InstrElement, Dst: 2, A: 1, Value: 1}, {Kind: api.InstrSet, A: 2, B: 1, Value: 1}, {Kind: api.InstrRead, Dst: 2}, {Kind: api.InstrPrint, A: 2},
		{Kind: api.InstrCall, Dst: 2, Value: 1, Args: []int{1, 2}}, {Kind: api.InstrCallValue, Dst: 2, A: 1, Args: []int{2, 0, 1}}, {Kind: api.InstrCount, Value: 1}, {Kind: api.InstrFunc, Dst: 2, Value: 1},
	}
	return api.Program{
		Globals: []api.Global{{Name: "s"}, {Name: "a", Size: 3}, {Name: "t"}},
		Funcs: []api.Function{
			{Name: "main", Regs: 3, Blocks: []api.Block{{Instrs: all, Term: branch(2, 2, 1), Line: 1}, {Term: jump(2), Line: 2, Origin: api.Spot{Block: 1}}, {Term: give(2), Line: 3, Origin: api.Spot{Block: 2}}}},
			{Name: "f", Params: 2, Regs: 2, Blocks: []api.Block{{Term: give(1), Line: 4, Origin: api.Spot{Func: 1}}}},
			{Name: "g", Params: 1, Regs: 4, Blocks: []api.Block{{Term: jump(0), Line: 5, Origin: api.Spot{Func: 2}}}},
		},
		Callable: 2,
		Counters: 2,
	}
}

func isError(t *testing.T, p api.Program, want api.Errno) {
	t.Helper()
	if e := Check(p); e != want {
		t.Errorf("%.300s: error %d, not %d", fmt.Sprint(p), e, want)
	}
}

func TestRightPrograms(t *testing.T) {
	isError(t, known(), api.OK)
	isError(t, api.Program{Funcs: []api.Function{graph(give(0))}}, api.OK)
	isError(t, api.Program{Funcs: []api.Function{{Blocks: []api.Block{{Term: jump(0)}}}}}, api.OK)
	isError(t, api.Program{Funcs: []api.Function{graph(branch(0, 1, 1), give(0))}}, api.OK)
	isError(t, api.Program{Funcs: []api.Function{graph(branch(0, 1, 2), jump(0), jump(1))}}, api.OK)
	isError(t, api.Program{Funcs: []api.Function{{Blocks: []api.Block{{Instrs: []api.Instr{{Kind: api.InstrCount}}, Term: jump(0)}}}}, Counters: 1}, api.OK)
}

// first is the instruction number i of the block 0 of the function 0.
func first(p *api.Program, i int) *api.Instr { return &p.Funcs[0].Blocks[0].Instrs[i] }

// TestOrderOfErrors makes two errors in the known program, in parts that have nothing to do with each other: the first one applies.
func TestOrderOfErrors(t *testing.T) {
	made := []struct {
		e      api.Errno
		change func(p *api.Program)
	}{
		{api.ErrLimit, func(p *api.Program) { p.Counters = -1 }},
		{api.ErrGlobal, func(p *api.Program) { p.Globals[2].Size = -1 }},
		{api.ErrFunction, func(p *api.Program) { p.Callable = 4 }},
		{api.ErrMain, func(p *api.Program) { p.Funcs[0].Params = 1 }},
		{api.ErrLimit, func(p *api.Program) {
			p.Funcs[0].Blocks = append(p.Funcs[0].Blocks, make([]api.Block, api.MaxBlocks)...)
		}},
		{api.ErrRegister, func(p *api.Program) { p.Funcs[0].Regs = api.MaxRegs + 1 }},
		{api.ErrOp, func(p *api.Program) { first(p, 0).Kind = 0 }},
		{api.ErrRegister, func(p *api.Program) { first(p, 1).A = -1 }},
		{api.ErrGlobal, func(p *api.Program) { first(p, 4).Value = 3 }},
		{api.ErrArity, func(p *api.Program) { first(p, 10).Args = nil }},
		{api.ErrRange, func(p *api.Program) { first(p, 12).Value = 2 }},
		{api.ErrFunction, func(p *api.Program) { first(p, 13).Value = 2 }},
		{api.ErrRegister, func(p *api.Program) { p.Funcs[0].Blocks[0].Term.A = -1 }},
		{api.ErrOp, func(p *api.Program) { p.Funcs[0].Blocks[1].Term.Kind = 0 }},
		{api.ErrRegister, func(p *api.Program) { p.Funcs[0].Blocks[2].Term.A = -1 }},
		{api.ErrBlock, func(p *api.Program) { p.Funcs[0].Blocks = append(p.Funcs[0].Blocks, block(give(0))) }},
		{api.ErrLimit, func(p *api.Program) { p.Funcs[1].Blocks = nil }},
		{api.ErrOp, func(p *api.Program) { p.Funcs[2].Blocks[0].Term.Kind = 4 }},
	}
	for i, a := range made {
		for _, b := range made[i:] {
			p := known()
			b.change(&p)
			isError(t, p, b.e)
			a.change(&p)
			isError(t, p, a.e)
		}
	}
}

func TestLimitsOfPrograms(t *testing.T) {
	one := graph(give(0))
	funcs := func(n int) []api.Function { return slices.Repeat([]api.Function{one}, n) }
	for _, c := range []struct {
		p    api.Program
		want api.Errno
	}{
		{api.Program{}, api.ErrLimit}, {api.Program{Callable: -1}, api.ErrLimit}, {api.Program{Globals: []api.Global{{Size: -1}}}, api.ErrLimit},
		{api.Program{Funcs: funcs(api.MaxFuncs)}, api.OK}, {api.Program{Funcs: funcs(api.MaxFuncs + 1)}, api.ErrLimit},
		{api.Program{Funcs: funcs(1), Globals: make([]api.Global, api.MaxGlobals)}, api.OK}, {api.Program{Funcs: funcs(1), Globals: make([]api.Global, api.MaxGlobals+1)}, api.ErrLimit}, {api.Program{Funcs: funcs(1), Globals: make([]api.Global, 1000), Counters: -1}, api.ErrLimit},
		{api.Program{Funcs: funcs(1), Counters: api.MaxCounters}, api.OK}, {api.Program{Funcs: funcs(1), Counters: api.MaxCounters + 1}, api.ErrLimit}, {api.Program{Funcs: funcs(1), Counters: -1}, api.ErrLimit}, {api.Program{Funcs: funcs(1), Counters: least}, api.ErrLimit}, {api.Program{Funcs: funcs(1), Counters: greatest}, api.ErrLimit},
		{api.Program{Funcs: funcs(1), Globals: []api.Global{{}, {Size: 1}, {Size: api.MaxArray}}}, api.OK}, {api.Program{Funcs: funcs(1), Globals: []api.Global{{}, {Size: api.MaxArray + 1}}}, api.ErrGlobal}, {api.Program{Funcs: funcs(1), Globals: []api.Global{{Size: -1}, {}}}, api.ErrGlobal}, {api.Program{Funcs: funcs(1), Globals: []api.Global{{Size: least}}}, api.ErrGlobal}, {api.Program{Funcs: funcs(1), Globals: []api.Global{{Size: greatest}}}, api.ErrGlobal},
		{api.Program{Funcs: funcs(3), Callable: 3}, api.OK}, {api.Program{Funcs: funcs(3), Callable: 4}, api.ErrFunction}, {api.Program{Funcs: funcs(3), Callable: -1}, api.ErrFunction}, {api.Program{Funcs: funcs(3), Callable: least}, api.ErrFunction}, {api.Program{Funcs: funcs(3), Callable: greatest}, api.ErrFunction},
		{api.Program{Funcs: []api.Function{{Params: 1, Regs: 1, Blocks: one.Blocks}}}, api.ErrMain}, {api.Program{Funcs: []api.Function{{Params: -1, Regs: 1, Blocks: one.Blocks}}}, api.ErrMain}, {api.Program{Funcs: []api.Function{{Params: 1}}}, api.ErrMain},
		{api.Program{Funcs: []api.Function{one, {Params: 1, Regs: 1, Blocks: one.Blocks}}}, api.OK},
	} {
		isError(t, c.p, c.want)
	}
}

func TestLimitsOfFunctions(t *testing.T) {
	chain := func(blocks, instrs int) (f api.Function) {
		f.Regs = 1
		for b := range blocks {
			f.Blocks = append(f.Blocks, block(jump(min(b+1, blocks-1))))
		}
		for i := range instrs {
			f.Blocks[i%blocks].Instrs = append(f.Blocks[i%blocks].Instrs, set(0))
		}
		return f
	}
	with := func(f api.Function, params, regs int) api.Function {
		f.Params, f.Regs = params, regs
		return f
	}
	for _, c := range []struct {
		f    api.Function
		want api.Errno
	}{
		{chain(1, 0), api.OK}, {chain(api.MaxBlocks, 0), api.OK}, {chain(api.MaxBlocks+1, 0), api.ErrLimit}, {api.Function{}, api.ErrLimit}, {api.Function{Regs: -1}, api.ErrLimit},
		{chain(1, api.MaxInstrs-1), api.OK}, {chain(1, api.MaxInstrs), api.ErrLimit}, {chain(9, api.MaxInstrs-9), api.OK}, {chain(9, api.MaxInstrs-8), api.ErrLimit}, {chain(api.MaxBlocks, api.MaxInstrs-api.MaxBlocks), api.OK}, {chain(api.MaxBlocks, api.MaxInstrs-api.MaxBlocks+1), api.ErrLimit},
		{with(chain(1, 0), 0, 0), api.OK}, {with(chain(1, 0), 0, api.MaxRegs), api.OK}, {with(chain(1, 0), 0, api.MaxRegs+1), api.ErrRegister}, {with(chain(1, 0), 0, -1), api.ErrRegister}, {with(chain(1, 0), -1, -1), api.ErrRegister}, {with(chain(1, 0), 0, greatest), api.ErrRegister},
		{with(chain(1, 0), 4, 4), api.OK}, {with(chain(1, 0), 5, 4), api.ErrRegister}, {with(chain(1, 0), -1, 4), api.ErrRegister}, {with(chain(1, 0), api.MaxRegs, api.MaxRegs), api.OK}, {with(chain(1, 0), least, 4), api.ErrRegister}, {with(chain(1, 0), greatest, greatest), api.ErrRegister},
		{with(chain(1, api.MaxInstrs), -1, -1), api.ErrLimit},
	} {
		isError(t, api.Program{Funcs: []api.Function{graph(give(0)), c.f}}, c.want)
	}
}

// TestErrorsOfInstructions has instructions of a program with the globals scalar and array, whose functions have 0, 2 and 250 parameters, with 3 registers, 2 functions that can be called and 2 counters.
func TestErrorsOfInstructions(t *testing.T) {
	zeros := func(n int) []int { return make([]int, n) }
	for _, c := range []struct {
		i    api.Instr
		want api.Errno
	}{
		{api.Instr{}, api.ErrOp}, {api.Instr{Kind: -1, Dst: -1}, api.ErrOp}, {api.Instr{Kind: 15}, api.ErrOp}, {api.Instr{Kind: least}, api.ErrOp}, {api.Instr{Kind: greatest}, api.ErrOp},
		{api.Instr{Kind: api.InstrUnary, Op: api.OpNegate}, api.OK}, {api.Instr{Kind: api.InstrUnary, Op: api.OpNot}, api.OK}, {api.Instr{Kind: api.InstrUnary}, api.ErrOp}, {api.Instr{Kind: api.InstrUnary, Op: api.OpAdd}, api.ErrOp}, {api.Instr{Kind: api.InstrUnary, Op: 12, Dst: 3}, api.ErrOp},
		{api.Instr{Kind: api.InstrBinary, Op: api.OpAdd}, api.OK}, {api.Instr{Kind: api.InstrBinary, Op: api.OpUnequal}, api.OK}, {api.Instr{Kind: api.InstrBinary, Op: api.OpNot, A: -1}, api.ErrOp}, {api.Instr{Kind: api.InstrBinary, Op: 12}, api.ErrOp}, {api.Instr{Kind: api.InstrBinary, Op: -1}, api.ErrOp},
		{api.Instr{Kind: api.InstrConst, Dst: 2, Value: least}, api.OK}, {api.Instr{Kind: api.InstrConst, Dst: 3}, api.ErrRegister}, {api.Instr{Kind: api.InstrConst, Dst: -1}, api.ErrRegister}, {api.Instr{Kind: api.InstrMove, A: 2}, api.OK}, {api.Instr{Kind: api.InstrMove, A: 3}, api.ErrRegister}, {api.Instr{Kind: api.InstrMove, A: least}, api.ErrRegister},
		{api.Instr{Kind: api.InstrBinary, Op: 3, B: 3}, api.ErrRegister}, {api.Instr{Kind: api.InstrSet, Value: 1, B: -1}, api.ErrRegister}, {api.Instr{Kind: api.InstrSet, Value: 0, B: -1}, api.ErrRegister}, {api.Instr{Kind: api.InstrStore, A: 3, Value: 1}, api.ErrRegister}, {api.Instr{Kind: api.InstrLoad, Dst: 3, Value: 2}, api.ErrRegister},
		{api.Instr{Kind: api.InstrLoad}, api.OK}, {api.Instr{Kind: api.InstrLoad, Value: 1}, api.ErrGlobal}, {api.Instr{Kind: api.InstrLoad, Value: 2}, api.ErrGlobal}, {api.Instr{Kind: api.InstrLoad, Value: -1}, api.ErrGlobal}, {api.Instr{Kind: api.InstrStore}, api.OK}, {api.Instr{Kind: api.InstrStore, Value: 1}, api.ErrGlobal}, {api.Instr{Kind: api.InstrStore, Value: greatest}, api.ErrGlobal},
		{api.Instr{Kind: api.InstrElement, Value: 1}, api.OK}, {api.Instr{Kind: api.InstrElement}, api.ErrGlobal}, {api.Instr{Kind: api.InstrElement, Value: 2}, api.ErrGlobal}, {api.Instr{Kind: api.InstrElement, Value: -1}, api.ErrGlobal}, {api.Instr{Kind: api.InstrSet, Value: 1}, api.OK}, {api.Instr{Kind: api.InstrSet}, api.ErrGlobal}, {api.Instr{Kind: api.InstrSet, Value: least}, api.ErrGlobal},
		{api.Instr{Kind: api.InstrCall}, api.OK}, {api.Instr{Kind: api.InstrCall, Value: 1, Args: []int{2, 2}}, api.OK}, {api.Instr{Kind: api.InstrCall, Value: 2, Args: zeros(250)}, api.OK}, {api.Instr{Kind: api.InstrCall, Value: 3}, api.ErrFunction}, {api.Instr{Kind: api.InstrCall, Value: -1}, api.ErrFunction}, {api.Instr{Kind: api.InstrCall, Value: 3, Args: []int{3}}, api.ErrRegister}, {api.Instr{Kind: api.InstrCall, Value: 3, Dst: 3}, api.ErrRegister},
		{api.Instr{Kind: api.InstrCall, Args: zeros(1)}, api.ErrArity}, {api.Instr{Kind: api.InstrCall, Value: 1}, api.ErrArity}, {api.Instr{Kind: api.InstrCall, Value: 1, Args: zeros(1)}, api.ErrArity}, {api.Instr{Kind: api.InstrCall, Value: 1, Args: zeros(3)}, api.ErrArity}, {api.Instr{Kind: api.InstrCall, Value: 2, Args: zeros(251)}, api.ErrArity}, {api.Instr{Kind: api.InstrCall, Value: 1, Args: []int{0, 1, -1}}, api.ErrRegister},
		{api.Instr{Kind: api.InstrCallValue, A: 2, Value: -1}, api.OK}, {api.Instr{Kind: api.InstrCallValue, Args: zeros(250)}, api.OK}, {api.Instr{Kind: api.InstrCallValue, Args: zeros(251)}, api.ErrArity}, {api.Instr{Kind: api.InstrCallValue, A: 3, Args: zeros(251)}, api.ErrRegister}, {api.Instr{Kind: api.InstrCallValue, Args: []int{0, 3}}, api.ErrRegister}, {api.Instr{Kind: api.InstrCallValue, Dst: -1}, api.ErrRegister},
		{api.Instr{Kind: api.InstrFunc, Value: 1}, api.OK}, {api.Instr{Kind: api.InstrFunc, Value: 2}, api.ErrFunction}, {api.Instr{Kind: api.InstrFunc, Value: -1}, api.ErrFunction}, {api.Instr{Kind: api.InstrFunc, Value: 2, Dst: 3}, api.ErrRegister}, {api.Instr{Kind: api.InstrFunc, Value: greatest}, api.ErrFunction},
		{api.Instr{Kind: api.InstrCount, Value: 1}, api.OK}, {api.Instr{Kind: api.InstrCount, Value: 2}, api.ErrRange}, {api.Instr{Kind: api.InstrCount, Value: -1}, api.ErrRange}, {api.Instr{Kind: api.InstrCount, Dst: -1, A: 9, B: 9, Args: []int{9}}, api.OK}, {api.Instr{Kind: api.InstrCount, Value: least}, api.ErrRange},
		{api.Instr{Kind: api.InstrStore, Dst: 3, B: -1, Args: zeros(999), Op: 99}, api.OK}, {api.Instr{Kind: api.InstrPrint, Dst: 3, B: 3, Value: -1, Args: []int{9}, Op: -1}, api.OK}, {api.Instr{Kind: api.InstrRead, A: -1, B: -1, Value: -1, Args: []int{-1}, Op: -1}, api.OK}, {api.Instr{Kind: api.InstrFunc, A: 3, B: 3, Args: zeros(999), Op: 12}, api.OK}, {api.Instr{Kind: api.InstrSet, Value: 1, Dst: -1}, api.OK},
	} {
		f := api.Function{Regs: 3, Blocks: []api.Block{{Instrs: []api.Instr{set(0), c.i}, Term: give(0)}}}
		many := api.Function{Params: 250, Regs: 250, Blocks: []api.Block{{Term: give(0)}}}
		p := api.Program{Globals: []api.Global{{}, {Size: 1}}, Funcs: []api.Function{f, {Params: 2, Regs: 2, Blocks: many.Blocks}, many}, Callable: 2, Counters: 2}
		isError(t, p, c.want)
	}
}

func TestErrorsOfEnds(t *testing.T) {
	for _, c := range []struct {
		end  api.Term
		want api.Errno
	}{
		{api.Term{}, api.ErrOp}, {api.Term{Kind: 4}, api.ErrOp}, {api.Term{Kind: -1, A: -1, To: -1}, api.ErrOp}, {api.Term{Kind: least}, api.ErrOp}, {api.Term{Kind: greatest}, api.ErrOp},
		{branch(2, 1, 1), api.OK}, {branch(3, 1, 1), api.ErrRegister}, {branch(-1, 2, 2), api.ErrRegister}, {branch(least, 1, 1), api.ErrRegister}, {branch(0, 2, 1), api.ErrBlock}, {branch(0, 1, 2), api.ErrBlock}, {branch(0, -1, 1), api.ErrBlock}, {branch(0, 1, -1), api.ErrBlock}, {branch(0, 2, 2), api.ErrBlock}, {branch(0, greatest, 1), api.ErrBlock}, {branch(0, 1, least), api.ErrBlock},
		{jump(1), api.OK}, {jump(2), api.ErrBlock}, {jump(-1), api.ErrBlock}, {jump(0), api.ErrBlock}, {api.Term{Kind: api.TermJump, A: 3, To: 1, Else: 2}, api.OK}, {api.Term{Kind: api.TermJump, A: -1, To: 1, Else: -1}, api.OK}, {api.Term{Kind: api.TermJump, A: -1, To: 2}, api.ErrBlock},
		{give(2), api.ErrBlock}, {give(3), api.ErrRegister}, {give(-1), api.ErrRegister}, {branch(0, 0, 0), api.ErrBlock}, {branch(0, 0, 1), api.OK}, {branch(0, 1, 0), api.OK},
	} {
		isError(t, api.Program{Funcs: []api.Function{{Regs: 3, Blocks: []api.Block{{Term: c.end}, {Term: api.Term{Kind: api.TermReturn, A: 0, To: -1, Else: 2}}}}}}, c.want)
	}
}

// TestUnreachedBlocks has functions that are right but for blocks that are not reached from the block 0.
func TestUnreachedBlocks(t *testing.T) {
	for _, c := range []struct {
		f    api.Function
		want api.Errno
	}{
		{graph(give(0), jump(0)), api.ErrBlock}, {graph(jump(1), jump(0), jump(0)), api.ErrBlock}, {graph(jump(0), branch(0, 0, 2), jump(1)), api.ErrBlock}, {graph(jump(2), jump(1), jump(1)), api.OK}, {graph(branch(0, 3, 3), jump(2), give(0), jump(1)), api.OK},
		{graph(api.Term{Kind: api.TermReturn, To: 1, Else: 1}, give(0)), api.ErrBlock}, {graph(api.Term{Kind: api.TermJump, To: 0, Else: 1}, give(0)), api.ErrBlock},
	} {
		isError(t, api.Program{Funcs: []api.Function{c.f}}, c.want)
		isError(t, api.Program{Funcs: []api.Function{graph(give(0)), c.f, {}}}, cmp.Or(c.want, api.ErrLimit))
	}
}
