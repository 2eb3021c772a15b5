package link_test

import (
	"fmt"
	"math/rand"
	"slices"
	"testing"

	"warmpath/api"
	"warmpath/flow"
)

const (
	smallest = -1 << 63
	greatest = 1<<63 - 1
)

func leap(to int) api.Term { return api.Term{Kind: api.TermJump, To: to} }

func branch(a, to, otherwise int) api.Term {
	return api.Term{Kind: api.TermBranch, A: a, To: to, Else: otherwise}
}

func give(a int) api.Term { return api.Term{Kind: api.TermReturn, A: a} }

func block(end api.Term, l ...api.Instr) api.Block { return api.Block{Instrs: l, Term: end} }

func function(params, regs int, blocks ...api.Block) api.Function {
	return api.Function{Params: params, Regs: regs, Blocks: blocks}
}

func program(l ...api.Function) api.Program { return api.Program{Funcs: l} }

// room is an instruction that takes a number of bytes, from 2 to 254.
func room(bytes int) api.Instr {
	switch bytes {
	case 2:
		return api.Instr{Kind: api.InstrRead}
	case 3:
		return api.Instr{Kind: api.InstrMove}
	}
	return api.Instr{Kind: api.InstrCallValue, Args: make([]int, bytes-4)}
}

// sized is a function of one block that takes a number of bytes, from 4 on.
func sized(bytes int) api.Function {
	var l []api.Instr
	for rest := bytes - 2; rest > 0; {
		n := min(rest, 254)
		if rest-n == 1 {
			n--
		}
		l, rest = append(l, room(n)), rest-n
	}
	return function(0, 1, block(give(0), l...))
}

// isExpected demands that a program is one of those that the chapter speaks of.
func isExpected(t *testing.T, p api.Program) {
	t.Helper()
	if e := flow.Check(p); e != api.OK {
		t.Fatalf("%.2000v: error %d of flow.Check", fmt.Sprint(p), e)
	}
}

// maker makes random right programs.
type maker struct{ *rand.Rand }

func newMaker(seed int64) maker { return maker{rand.New(rand.NewSource(seed))} }

func (m maker) registers(n, regs int) (l []int) {
	for range n {
		l = append(l, m.Intn(regs))
	}
	return l
}

// instr is an instruction of a function of a program. Fields that it does not use are anything.
func (m maker) instr(p api.Program, regs int) api.Instr {
	i := api.Instr{Kind: 1 + m.Intn(14), Op: m.Intn(99), Dst: m.Intn(regs), A: m.Intn(regs), B: m.Intn(regs), Value: m.Int(), Args: m.registers(m.Intn(3), regs)}
	switch i.Kind {
	case api.InstrUnary:
		i.Op = 1 + m.Intn(2)
	case api.InstrBinary:
		i.Op = 3 + m.Intn(9)
	case api.InstrLoad, api.InstrStore:
		i.Value = 0
	case api.InstrElement, api.InstrSet:
		i.Value = 1
	case api.InstrCall:
		i.Value = m.Intn(len(p.Funcs))
		i.Args = m.registers(p.Funcs[i.Value].Params, regs)
	case api.InstrCount:
		i.Value = m.Intn(p.Counters)
	case api.InstrFunc:
		i.Value = m.Intn(p.Callable)
	}
	return i
}

func (m maker) instrs(p api.Program, regs int) (l []api.Instr) {
	for range m.Intn(5) {
		l = append(l, m.instr(p, regs))
	}
	if m.Intn(4) == 0 {
		l = append(l, room(2+m.Intn(140)))
	}
	return l
}

// blocks are blocks of which each one is reached: each leads to the next one, and many lead anywhere else.
func (m maker) blocks(p api.Program, regs int) (l []api.Block) {
	n := 1 + m.Intn(6)
	for b := range n {
		end := leap(b + 1)
		switch m.Intn(4) {
		case 0:
			end = branch(m.Intn(regs), b+1, m.Intn(n))
		case 1:
			end = branch(m.Intn(regs), m.Intn(n), b+1)
		}
		if b == n-1 {
			end = []api.Term{give(m.Intn(regs)), leap(m.Intn(n)), branch(0, m.Intn(n), m.Intn(n))}[m.Intn(3)]
		}
		l = append(l, api.Block{Instrs: m.instrs(p, regs), Term: end, Line: m.Intn(9), Origin: api.Spot{Func: m.Intn(9), Block: m.Intn(9)}})
	}
	return l
}

func (m maker) program() api.Program {
	p := api.Program{Globals: []api.Global{{Name: "s"}, {Name: "a", Size: 1 + m.Intn(9)}}, Counters: 1 + m.Intn(9), Funcs: make([]api.Function, 1+m.Intn(6))}
	p.Callable = 1 + m.Intn(len(p.Funcs))
	for i := range p.Funcs {
		f := &p.Funcs[i]
		f.Name, f.Params = "f", m.Intn(4)
		f.Regs = f.Params + 1 + m.Intn(5)
	}
	p.Funcs[0].Params = 0
	for i := range p.Funcs {
		p.Funcs[i].Blocks = m.blocks(p, p.Funcs[i].Regs)
	}
	return p
}

// layout is an order of functions, and orders of blocks that begin with 0.
func (m maker) layout(p api.Program) api.Layout {
	l := api.Layout{Funcs: m.Perm(len(p.Funcs))}
	for _, f := range p.Funcs {
		order := []int{0}
		for _, b := range m.Perm(len(f.Blocks) - 1) {
			order = append(order, b+1)
		}
		if m.Intn(3) == 0 {
			slices.Sort(order)
		}
		l.Blocks = append(l.Blocks, order)
	}
	return l
}
