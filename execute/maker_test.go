package execute_test

import (
	"fmt"
	"math/rand"
	"slices"
	"testing"

	"warmpath/api"
	"warmpath/flow"
	"warmpath/link"
)

const (
	least    = -1 << 63
	greatest = 1<<63 - 1
)

func leap(to int) api.Term { return api.Term{Kind: api.TermJump, To: to} }

func branch(a, to, otherwise int) api.Term {
	return api.Term{Kind: api.TermBranch, A: a, To: to, Else: otherwise}
}

func give(a int) api.Term { return api.Term{Kind: api.TermReturn, A: a} }

func constant(dst, value int) api.Instr {
	return api.Instr{Kind: api.InstrConst, Dst: dst, Value: value}
}

func binary(op, dst, a, b int) api.Instr {
	return api.Instr{Kind: api.InstrBinary, Op: op, Dst: dst, A: a, B: b}
}

func read(dst int) api.Instr { return api.Instr{Kind: api.InstrRead, Dst: dst} }

func show(a int) api.Instr { return api.Instr{Kind: api.InstrPrint, A: a} }

func count(counter int) api.Instr { return api.Instr{Kind: api.InstrCount, Value: counter} }

func call(dst, function int, args ...int) api.Instr {
	return api.Instr{Kind: api.InstrCall, Dst: dst, Value: function, Args: args}
}

func callOf(dst, a int, args ...int) api.Instr {
	return api.Instr{Kind: api.InstrCallValue, Dst: dst, A: a, Args: args}
}

func block(end api.Term, l ...api.Instr) api.Block { return api.Block{Instrs: l, Term: end} }

func function(params, regs int, blocks ...api.Block) api.Function {
	return api.Function{Params: params, Regs: regs, Blocks: blocks}
}

// program has functions that can all be called, a scalar 0, arrays 1 and 2 of one and three elements, and three counters.
func program(l ...api.Function) api.Program {
	return api.Program{Funcs: l, Callable: len(l), Counters: 3, Globals: []api.Global{{Name: "s"}, {Name: "a", Size: 1}, {Name: "b", Size: 3}}}
}

// image is a program with its functions and blocks by number.
func image(t *testing.T, p api.Program) api.Image {
	t.Helper()
	return linked(t, p, link.Plain(p))
}

func linked(t *testing.T, p api.Program, l api.Layout) api.Image {
	t.Helper()
	if e := flow.Check(p); e != api.OK {
		t.Fatalf("%.2000s: error %d of flow.Check", fmt.Sprint(p), e)
	}
	m, e := link.Link(p, l)
	if e != api.OK {
		t.Fatalf("%.2000s: error %d of link.Link", fmt.Sprint(p), e)
	}
	return m
}

// maker makes random programs that are right, of which many return or trap soon, with anything in the fields that do not matter.
type maker struct {
	*rand.Rand
	p    api.Program
	regs int // of the function that is being made
	next int // the number of the function behind it
}

func newMaker(seed int64) *maker { return &maker{Rand: rand.New(rand.NewSource(seed))} }

// any is a number that is no register, block or anything else, or that happens to be one.
func (m *maker) any() int {
	return []int{0, 0, 1, 2, 5, 12, -1, -2, 251, least, greatest}[m.Intn(11)]
}

// small is a number that can be that of something.
func (m *maker) small() int { return m.Intn(5) - m.Intn(2) }

func (m *maker) register() int { return m.Intn(m.regs) }

// some are registers.
func (m *maker) some(n int) []int {
	l := make([]int, n, n+m.Intn(2))
	for i := range l {
		l[i] = m.register()
	}
	return l
}

// instr is an instruction of a kind whose unused fields are anything.
func (m *maker) instr(kind int) api.Instr {
	i := api.Instr{Kind: kind, Op: m.any(), Dst: m.register(), A: m.register(), B: m.register(), Value: m.any()}
	for range m.Intn(3) {
		i.Args = append(i.Args, m.any())
	}
	return i
}

// global is a scalar or an array.
func (m *maker) global(array bool) int {
	for {
		if g := m.Intn(len(m.p.Globals)); (m.p.Globals[g].Size > 0) == array {
			return g
		}
	}
}

// constant puts a number into a register.
func (m *maker) constant(register, value int) api.Instr {
	i := m.instr(api.InstrConst)
	i.Dst, i.Value = register, value
	return i
}

// instrs are one or two instructions; where it matters, the first one mostly makes a trap of the second one impossible.
func (m *maker) instrs() []api.Instr {
	i := m.instr(1 + m.Intn(14))
	guarded := m.Intn(12) > 0
	switch i.Kind {
	case api.InstrConst:
		i.Value = []int{m.small(), m.small(), m.any()}[m.Intn(3)]
	case api.InstrUnary:
		i.Op = 1 + m.Intn(2)
	case api.InstrBinary:
		i.Op = 3 + m.Intn(9)
		if m.Intn(2) == 0 && (i.Op == api.OpDivide || i.Op == api.OpModulo) {
			return []api.Instr{m.constant(i.B, 1+m.Intn(3)), i}
		}
	case api.InstrLoad, api.InstrStore:
		i.Value = m.global(false)
	case api.InstrElement, api.InstrSet:
		i.Value = m.global(true)
		if guarded {
			return []api.Instr{m.constant(i.A, m.Intn(m.p.Globals[i.Value].Size)), i}
		}
	case api.InstrCall:
		i.Value = m.called(len(m.p.Funcs))
		i.Args = m.some(m.p.Funcs[i.Value].Params)
	case api.InstrCallValue:
		return m.valueCall(i, guarded)
	case api.InstrCount:
		i.Value = m.Intn(m.p.Counters)
	case api.InstrFunc:
		i.Value = m.Intn(m.p.Callable)
	}
	return []api.Instr{i}
}

// called is the number of one of the functions, mostly of one behind that which is being made, so that few runs go on without end.
func (m *maker) called(functions int) int {
	if m.next < functions && m.Intn(8) > 0 {
		return m.next + m.Intn(functions-m.next)
	}
	return m.Intn(functions)
}

// valueCall is a call of a function value, mostly of one that can be called, or of a number that is read.
func (m *maker) valueCall(i api.Instr, guarded bool) []api.Instr {
	i.Args = m.some(m.Intn(4))
	if !guarded {
		return []api.Instr{i}
	}
	number := m.called(m.p.Callable)
	i.Args = m.some(m.p.Funcs[number].Params)
	put := m.constant(i.A, number)
	put.Kind = []int{api.InstrConst, api.InstrConst, api.InstrFunc, api.InstrFunc, api.InstrRead}[m.Intn(5)]
	return []api.Instr{put, i}
}

// end is an end that leads at least to some blocks, of which there are at most two.
func (m *maker) end(next []int, blocks int) api.Term {
	t := api.Term{Kind: []int{api.TermJump, api.TermBranch, api.TermReturn, api.TermReturn}[m.Intn(4)], A: m.any(), To: m.any(), Else: m.any()}
	switch {
	case m.regs == 0:
		t.Kind = api.TermJump
	case len(next) == 2:
		t.Kind = api.TermBranch
	case len(next) == 1 && t.Kind == api.TermReturn:
		t.Kind = api.TermBranch
	}
	for len(next) < 2 {
		next = append(next, m.Intn(blocks))
	}
	if t.Kind != api.TermReturn {
		t.To = next[0]
	}
	if t.Kind == api.TermBranch {
		t.Else = next[1]
		if m.Intn(2) == 0 {
			t.To, t.Else = t.Else, t.To
		}
	}
	if t.Kind != api.TermJump {
		t.A = m.register()
	}
	return t
}

// ends are the ends of blocks of which each one is reached: they are the branches of a tree, and lead anywhere else.
func (m *maker) ends(blocks int) (l []api.Term) {
	number := append([]int{0}, m.Perm(blocks-1)...)
	for i := range number[1:] {
		number[1+i]++
	}
	children := make([][]int, blocks)
	for i := 1; i < blocks; {
		parent := number[m.Intn(i)]
		if len(children[parent]) < min(2, 1+m.regs) {
			children[parent] = append(children[parent], number[i])
			i++
		}
	}
	for _, next := range children {
		l = append(l, m.end(next, blocks))
	}
	return l
}

func (m *maker) function(f api.Function) api.Function {
	m.regs = f.Regs
	for _, end := range m.ends(1 + m.Intn(6)) {
		b := api.Block{Term: end, Line: m.any(), Origin: api.Spot{Func: m.any(), Block: m.any()}}
		for range m.Intn(6) {
			if m.regs > 0 {
				b.Instrs = append(b.Instrs, m.instrs()...)
			}
		}
		if end.Kind == api.TermBranch && m.Intn(4) > 0 {
			b.Instrs = append(b.Instrs, api.Instr{Kind: api.InstrRead, Dst: end.A})
		}
		f.Blocks = append(f.Blocks, b)
	}
	m.next++
	return f
}

// program is a program that is right.
func (m *maker) program() api.Program {
	m.next = 1
	m.p = api.Program{Globals: []api.Global{{Name: "g"}, {Name: "a", Size: 3}, {Name: "h"}, {Name: "b", Size: 1}}, Counters: 1 + m.Intn(4)}
	for i := range 1 + m.Intn(5) {
		f := api.Function{Name: "f", Regs: 1 + m.Intn(5)}
		if m.Intn(30) == 0 {
			f.Regs = 0
		}
		if i > 0 {
			f.Params = min(m.Intn(3), m.Intn(3), f.Regs)
		}
		m.p.Funcs = append(m.p.Funcs, f)
	}
	m.p.Callable = 1 + m.Intn(len(m.p.Funcs))
	for i, f := range m.p.Funcs {
		m.p.Funcs[i] = m.function(f)
	}
	return m.p
}

// input is numbers that are read.
func (m *maker) input() (l []int) {
	for range m.Intn(30) {
		l = append(l, m.small())
	}
	return l
}

// layout is an order of functions, and orders of blocks that begin with 0.
func (m *maker) layout(p api.Program) api.Layout {
	l := api.Layout{Funcs: m.Perm(len(p.Funcs))}
	for _, f := range p.Funcs {
		order := []int{0}
		for _, b := range m.Perm(len(f.Blocks) - 1) {
			order = append(order, b+1)
		}
		if m.Intn(3) == 0 {
			slices.Sort(order)
		}
		l.Blocks = append(l.Blocks, order)
	}
	return l
}
