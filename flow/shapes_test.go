package flow

import (
	"math/rand"
	"slices"

	"warmpath/api"
)

const (
	least    = -1 << 63
	greatest = 1<<63 - 1
)

// shape is what the document says of a kind of instructions: the fields of the registers that it reads (l: Args), whether it writes one, what its Value is, and the first and the last of its operations.
type shape struct {
	reads    string
	writes   bool
	value    string
	from, to int
}

// shapes are the fourteen kinds.
var shapes = map[int]shape{
	api.InstrConst:     {"", true, "", 0, 0},
	api.InstrMove:      {"a", true, "", 0, 0},
	api.InstrUnary:     {"a", true, "", 1, 2},
	api.InstrBinary:    {"ab", true, "", 3, 11},
	api.InstrLoad:      {"", true, "scalar", 0, 0},
	api.InstrStore:     {"a", false, "scalar", 0, 0},
	api.InstrElement:   {"a", true, "array", 0, 0},
	api.InstrSet:       {"ab", false, "array", 0, 0},
	api.InstrRead:      {"", true, "", 0, 0},
	api.InstrPrint:     {"a", false, "", 0, 0},
	api.InstrCall:      {"l", true, "function", 0, 0},
	api.InstrCallValue: {"al", true, "", 0, 0},
	api.InstrCount:     {"", false, "counter", 0, 0},
	api.InstrFunc:      {"", true, "callable", 0, 0},
}

// used are the registers that an instruction reads, in the order of its fields.
func used(i api.Instr) (l []int) {
	for _, field := range shapes[i.Kind].reads {
		switch field {
		case 'a':
			l = append(l, i.A)
		case 'b':
			l = append(l, i.B)
		case 'l':
			l = append(l, i.Args...)
		}
	}
	return l
}

// successors are the blocks to which an end leads, each once.
func successors(t api.Term) []int {
	l := [][]int{1: {t.To}, 2: {t.To, t.Else}, 3: nil}[t.Kind]
	if len(l) == 2 && l[0] == l[1] {
		l = l[:1]
	}
	return l
}

// maker makes random programs that are right.
type maker struct{ *rand.Rand }

func newMaker(seed int64) maker { return maker{rand.New(rand.NewSource(seed))} }

// any is a number that is no register, block or anything else, or that happens to be one.
func (m maker) any() int {
	return []int{0, 0, 1, 2, 5, 12, -1, -2, 251, least, greatest}[m.Intn(11)]
}

func (m maker) anys() (l []int) {
	for range m.Intn(4) {
		l = append(l, m.any())
	}
	return l
}

// where returns the index of one of the globals for which right holds, or -1.
func (m maker) where(p api.Program, right func(api.Global) bool) int {
	for _, i := range m.Perm(len(p.Globals)) {
		if right(p.Globals[i]) {
			return i
		}
	}
	return -1
}

// value is a Value for an instruction, and the number of its arguments (-1: any); not ok if the program has none.
func (m maker) value(p api.Program, kind string) (value, args int, ok bool) {
	value, args = m.any(), -1
	number := func(things int) int { return m.Intn(things+1) - 1 }
	switch kind {
	case "scalar":
		value = m.where(p, func(g api.Global) bool { return g.Size == 0 })
	case "array":
		value = m.where(p, func(g api.Global) bool { return g.Size > 0 })
	case "function":
		value = m.Intn(len(p.Funcs))
		args = p.Funcs[value].Params
	case "callable":
		value = number(p.Callable)
	case "counter":
		value = number(p.Counters)
	default:
		return value, args, true
	}
	return value, args, value >= 0
}

// instr is an instruction; what it does not use is anything.
func (m maker) instr(p api.Program, regs int) api.Instr {
	i := api.Instr{Op: m.any(), Dst: m.any(), A: m.any(), B: m.any(), Args: m.anys()}
	for {
		i.Kind = 1 + m.Intn(14)
		s := shapes[i.Kind]
		value, args, ok := m.value(p, s.value)
		if !ok {
			continue
		}
		i.Value = value
		if s.writes {
			i.Dst = m.Intn(regs)
		}
		if s.to > 0 {
			i.Op = s.from + m.Intn(s.to-s.from+1)
		}
		m.registers(&i, args, regs)
		return i
	}
}

// registers are given to all fields that an instruction reads.
func (m maker) registers(i *api.Instr, args, regs int) {
	for _, field := range shapes[i.Kind].reads {
		switch field {
		case 'a':
			i.A = m.Intn(regs)
		case 'b':
			i.B = m.Intn(regs)
		case 'l':
			if args < 0 {
				args = m.Intn(5)
			}
			i.Args = make([]int, args)
			for j := range i.Args {
				i.Args[j] = m.Intn(regs)
			}
		}
	}
}

// end is an end that leads at least to some blocks.
func (m maker) end(next []int, blocks, regs int) api.Term {
	t := api.Term{Kind: 1 + m.Intn(3), A: m.any(), To: m.any(), Else: m.any()}
	switch {
	case len(next) == 2:
		t.Kind = api.TermBranch
	case len(next) == 1 && t.Kind == api.TermReturn:
		t.Kind = api.TermJump
	}
	for len(next) < 2 {
		next = append(next, m.Intn(blocks))
	}
	if t.Kind != api.TermReturn {
		t.To = next[0]
	}
	if t.Kind == api.TermBranch {
		t.Else = next[1]
		if m.Intn(2) == 0 {
			t.To, t.Else = t.Else, t.To
		}
	}
	if t.Kind != api.TermJump {
		t.A = m.Intn(regs)
	}
	return t
}

// ends are the ends of blocks of which each one is reached: they are the branches of a tree, and lead anywhere else.
func (m maker) ends(blocks, regs int) (l []api.Term) {
	number := append([]int{0}, m.Perm(blocks-1)...)
	for i := range number[1:] {
		number[1+i]++
	}
	children := make([][]int, blocks)
	for i := 1; i < blocks; {
		parent := number[m.Intn(i)]
		if len(children[parent]) < 2 {
			children[parent] = append(children[parent], number[i])
			i++
		}
	}
	for _, next := range children {
		l = append(l, m.end(next, blocks, regs))
	}
	return l
}

func (m maker) function(p api.Program, f api.Function, blocks, instrs int) api.Function {
	for _, end := range m.ends(blocks, f.Regs) {
		b := api.Block{Term: end, Line: m.any(), Origin: api.Spot{Func: m.any(), Block: m.any()}}
		for range m.Intn(1 + instrs) {
			b.Instrs = append(b.Instrs, m.instr(p, f.Regs))
		}
		f.Blocks = append(f.Blocks, b)
	}
	return f
}

// program is a program that is right, with anything in the fields that do not matter.
func (m maker) program() (p api.Program) {
	for range m.Intn(4) {
		p.Globals = append(p.Globals, api.Global{Name: "g", Size: m.Intn(3)})
	}
	p.Counters = m.Intn(4)
	for i := range 1 + m.Intn(4) {
		f := api.Function{Name: "f", Regs: 1 + m.Intn(5)}
		if i > 0 {
			f.Params = m.Intn(1 + f.Regs)
		}
		p.Funcs = append(p.Funcs, f)
	}
	p.Callable = m.Intn(1 + len(p.Funcs))
	for i, f := range p.Funcs {
		p.Funcs[i] = m.function(p, f, 1+m.Intn(7), 4)
	}
	return p
}

// copied is a program in memory of its own.
func copied(p api.Program) api.Program {
	p.Globals, p.Funcs = slices.Clone(p.Globals), slices.Clone(p.Funcs)
	for i := range p.Funcs {
		p.Funcs[i] = copiedFunc(p.Funcs[i])
	}
	return p
}

func copiedFunc(f api.Function) api.Function {
	f.Blocks = slices.Clone(f.Blocks)
	for i, b := range f.Blocks {
		b.Instrs = slices.Clone(b.Instrs)
		for j := range b.Instrs {
			b.Instrs[j].Args = slices.Clone(b.Instrs[j].Args)
		}
		f.Blocks[i] = b
	}
	return f
}
