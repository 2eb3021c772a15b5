package lower

import (
	"warmpath/api"
	"warmpath/evaluate"
)

// machine runs control flow: a step for each register when a function is entered, and for each instruction and end.
type machine struct {
	p        api.Program
	input    []int
	left     int // steps
	depth    int
	globals  [][]int
	output   []int
	executed map[api.Spot]bool
}

// ended is how a run ends that does not return.
type ended struct{ kind, trap int }

// executed runs a program.
func executed(p api.Program, input []int, l api.Limit) (out api.Outcome) {
	m := &machine{p: p, input: input, left: l.Steps, depth: l.Depth}
	for _, g := range p.Globals {
		m.globals = append(m.globals, make([]int, max(1, g.Size)))
	}
	defer func() {
		if e, ok := recover().(ended); ok {
			out = api.Outcome{Kind: e.kind, Trap: e.trap}
		}
		out.Output = m.output
	}()
	return api.Outcome{Kind: api.Returned, Value: m.call(0, nil)}
}

func (m *machine) pay(steps int) {
	if steps > m.left {
		panic(ended{kind: api.Exhausted})
	}
	m.left -= steps
}

func (m *machine) call(number int, args []int) int {
	if m.depth <= 0 {
		panic(ended{kind: api.Exhausted})
	}
	f := m.p.Funcs[number]
	m.pay(f.Regs)
	m.depth--
	registers := make([]int, f.Regs)
	copy(registers, args)
	b := f.Blocks[0]
	for {
		for _, i := range b.Instrs {
			m.pay(1)
			m.do(i, registers)
		}
		m.pay(1)
		switch {
		case b.Term.Kind == api.TermReturn:
			m.depth++
			return registers[b.Term.A]
		case b.Term.Kind == api.TermBranch && registers[b.Term.A] == 0:
			b = f.Blocks[b.Term.Else]
		default:
			b = f.Blocks[b.Term.To]
		}
	}
}

func (m *machine) do(i api.Instr, r []int) {
	switch i.Kind {
	case api.InstrConst, api.InstrFunc:
		r[i.Dst] = i.Value
	case api.InstrMove:
		r[i.Dst] = r[i.A]
	case api.InstrUnary:
		r[i.Dst] = evaluate.Unary(i.Op, r[i.A])
	case api.InstrBinary:
		value, defined := evaluate.Apply(i.Op, r[i.A], r[i.B])
		m.demand(defined, api.TrapDivide)
		r[i.Dst] = value
	case api.InstrLoad:
		r[i.Dst] = m.globals[i.Value][0]
	case api.InstrStore:
		m.globals[i.Value][0] = r[i.A]
	case api.InstrElement:
		r[i.Dst] = *m.element(i.Value, r[i.A])
	case api.InstrSet:
		*m.element(i.Value, r[i.A]) = r[i.B]
	case api.InstrRead:
		r[i.Dst] = m.read()
	case api.InstrPrint:
		if len(m.output) == api.MaxOutput {
			panic(ended{kind: api.Exhausted})
		}
		m.output = append(m.output, r[i.A])
	case api.InstrCall:
		r[i.Dst] = m.call(i.Value, values(i.Args, r))
	case api.InstrCallValue:
		f := r[i.A]
		m.demand(f >= 0 && f < m.p.Callable && len(i.Args) == m.p.Funcs[f].Params, api.TrapValue)
		r[i.Dst] = m.call(f, values(i.Args, r))
	}
}

func (m *machine) demand(right bool, trap int) {
	if !right {
		panic(ended{api.Trapped, trap})
	}
}

func (m *machine) element(array, index int) *int {
	m.demand(index >= 0 && index < len(m.globals[array]), api.TrapIndex)
	return &m.globals[array][index]
}

func (m *machine) read() int {
	if len(m.input) == 0 {
		return 0
	}
	value := m.input[0]
	m.input = m.input[1:]
	return value
}

func values(registers, r []int) (l []int) {
	for _, register := range registers {
		l = append(l, r[register])
	}
	return l
}
