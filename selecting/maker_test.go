package selecting_test

import (
	"math/rand"
	"slices"
	"testing"

	"warmpath/api"
	"warmpath/flow"
)

const (
	smallest = -1 << 63
	greatest = 1<<63 - 1
)

func leap(to int) api.Term { return api.Term{Kind: api.TermJump, To: to} }

func branch(a, to, otherwise int) api.Term {
	return api.Term{Kind: api.TermBranch, A: a, To: to, Else: otherwise}
}

func give(a int) api.Term { return api.Term{Kind: api.TermReturn, A: a} }

func block(end api.Term, l ...api.Instr) api.Block { return api.Block{Instrs: l, Term: end} }

// room is an instruction that takes a number of bytes, from 4 to 254.
func room(bytes int) api.Instr {
	return api.Instr{Kind: api.InstrCallValue, Args: make([]int, bytes-4)}
}

// function is a right function, for which flow.Check is api.OK in the program of whole.
func function(blocks ...api.Block) api.Function { return api.Function{Regs: 250, Blocks: blocks} }

// whole is a program with all that the instructions of the tests name, and a function.
func whole(f api.Function) api.Program {
	p := api.Program{Globals: make([]api.Global, 32), Funcs: []api.Function{f}, Callable: 7, Counters: 4096}
	for i := 16; i < 32; i++ {
		p.Globals[i].Size = 9
	}
	for i := 1; i < 64; i++ {
		p.Funcs = append(p.Funcs, api.Function{Params: i, Regs: i, Blocks: []api.Block{block(give(0))}})
	}
	return p
}

// isExpected demands that a function is one of those that the chapter speaks of.
func isExpected(t *testing.T, f api.Function) {
	t.Helper()
	if e := flow.Check(whole(f)); e != api.OK {
		t.Fatalf("%v: error %d of flow.Check", f, e)
	}
}

// shape is what chapter 12 says of the Op that has the name of a Kind: its number, its slots (l: Args), and whether it has an Arith and a Value.
type shape struct {
	op           int
	slots        string
	arith, value bool
}

// shapes are the fourteen kinds.
var shapes = map[int]shape{
	api.InstrConst:     {1, "d", false, true},
	api.InstrMove:      {2, "da", false, false},
	api.InstrUnary:     {3, "da", true, false},
	api.InstrBinary:    {4, "dab", true, false},
	api.InstrLoad:      {5, "d", false, true},
	api.InstrStore:     {6, "a", false, true},
	api.InstrElement:   {7, "da", false, true},
	api.InstrSet:       {8, "ab", false, true},
	api.InstrRead:      {9, "d", false, false},
	api.InstrPrint:     {10, "a", false, false},
	api.InstrCall:      {11, "dl", false, true},
	api.InstrCallValue: {12, "dal", false, false},
	api.InstrCount:     {17, "", false, true},
	api.InstrFunc:      {18, "d", false, true},
}

// maker makes random right functions.
type maker struct{ *rand.Rand }

func newMaker(seed int64) maker { return maker{rand.New(rand.NewSource(seed))} }

// any is a number for a field that does not matter.
func (m maker) any() int {
	return []int{0, 1, 2, 5, -1, 128, 250, 1 << 20, smallest, greatest}[m.Intn(10)]
}

func (m maker) anys() (l []int) {
	for range m.Intn(4) {
		l = append(l, m.any())
	}
	return l
}

func (m maker) registers(n int) (l []int) {
	for range n {
		l = append(l, m.Intn(250))
	}
	return l
}

// instr is an instruction of a kind. Fields that it does not use are anything.
func (m maker) instr(kind int) api.Instr {
	i := api.Instr{Kind: kind, Op: m.any(), Dst: m.any(), A: m.any(), B: m.any(), Value: m.any(), Args: m.anys()}
	for _, slot := range shapes[kind].slots {
		switch slot {
		case 'd':
			i.Dst = m.Intn(250)
		case 'a':
			i.A = m.Intn(250)
		case 'b':
			i.B = m.Intn(250)
		case 'l':
			i.Args = m.registers(m.Intn(5))
		}
	}
	switch kind {
	case api.InstrUnary:
		i.Op = 1 + m.Intn(2)
	case api.InstrBinary:
		i.Op = 3 + m.Intn(9)
	case api.InstrLoad, api.InstrStore:
		i.Value = m.Intn(16)
	case api.InstrElement, api.InstrSet:
		i.Value = 16 + m.Intn(16)
	case api.InstrCall:
		i.Value = 1 + m.Intn(63)
		i.Args = m.registers(i.Value)
	case api.InstrCount:
		i.Value = m.Intn(4096)
	case api.InstrFunc:
		i.Value = m.Intn(7)
	}
	return i
}

// instrs are instructions, often with as many bytes as a jump that is not Wide can just cross.
func (m maker) instrs() (l []api.Instr) {
	for range m.Intn(4) {
		l = append(l, m.instr(1+m.Intn(14)))
	}
	switch m.Intn(4) {
	case 0:
		l = append(l, room(4+m.Intn(60)))
	case 1:
		l = []api.Instr{room(116 + m.Intn(14))}
	}
	return l
}

// end is an end that leads at least to some blocks, and anywhere else.
func (m maker) end(next []int, blocks int) api.Term {
	t := api.Term{Kind: 1 + m.Intn(3), A: m.any(), To: m.any(), Else: m.any()}
	switch {
	case len(next) == 2:
		t.Kind = api.TermBranch
	case len(next) == 1 && t.Kind == api.TermReturn:
		t.Kind = api.TermJump
	}
	for len(next) < 2 {
		next = append(next, m.Intn(blocks))
	}
	if t.Kind != api.TermReturn {
		t.To = next[0]
	}
	if t.Kind == api.TermBranch {
		t.Else = next[1]
		if m.Intn(2) == 0 {
			t.To, t.Else = t.Else, t.To
		}
	}
	if t.Kind != api.TermJump {
		t.A = m.Intn(250)
	}
	return t
}

// function is a function of blocks of which each one is reached: they are a tree, and lead anywhere else.
func (m maker) function(blocks int) api.Function {
	number := m.order(blocks)
	children := make([][]int, blocks)
	for i := 1; i < blocks; {
		parent := number[m.Intn(i)]
		if len(children[parent]) < 2 {
			children[parent] = append(children[parent], number[i])
			i++
		}
	}
	f := api.Function{Name: "f", Regs: 250}
	for _, next := range children {
		f.Blocks = append(f.Blocks, api.Block{Instrs: m.instrs(), Term: m.end(next, blocks), Line: m.any(), Origin: api.Spot{Func: m.any(), Block: m.any()}})
	}
	return f
}

// order is an order of blocks that begins with 0, often the natural one.
func (m maker) order(blocks int) []int {
	l := []int{0}
	for _, b := range m.Perm(blocks - 1) {
		l = append(l, b+1)
	}
	if m.Intn(3) == 0 {
		slices.Sort(l)
	}
	return l
}
