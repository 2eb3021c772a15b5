package selecting

import (
	"math"
	"slices"

	"warmpath/api"
	"warmpath/flow"
	"warmpath/machine"
)

// selection is the machine instructions of a function, whose jumps have no distances yet.
type selection struct {
	codes  []api.Code
	sizes  []int // of codes, in bytes
	firsts []int // by block, the index of its first instruction
	jumps  []jump
}

// jump is the index of an instruction that jumps, and the block to which it leads.
type jump struct{ code, to int }

// selected returns the instructions of blocks in an order, none of them Wide.
func selected(f api.Function, order []int) *selection {
	s := &selection{firsts: make([]int, len(order))}
	for place, b := range order {
		s.firsts[b] = len(s.codes)
		for _, i := range f.Blocks[b].Instrs {
			s.add(translated(i))
		}
		s.end(f.Blocks[b].Term, order[place+1:])
	}
	return s
}

func (s *selection) add(c api.Code) {
	s.codes = append(s.codes, c)
	s.sizes = append(s.sizes, machine.Size(c))
}

func (s *selection) jump(c api.Code, to int) {
	s.jumps = append(s.jumps, jump{len(s.codes), to})
	s.add(c)
}

// end adds what the end of a block is, if some blocks come behind it.
func (s *selection) end(t api.Term, behind []int) {
	isNext := func(b int) bool { return len(behind) > 0 && behind[0] == b }
	switch ways := flow.Next(t); {
	case len(ways) == 0:
		s.add(api.Code{Op: api.CodeReturn, A: t.A})
	case len(ways) == 1 && isNext(t.To):
	case len(ways) == 1:
		s.jump(api.Code{Op: api.CodeJump}, t.To)
	case isNext(t.To):
		s.jump(api.Code{Op: api.CodeUnless, A: t.A}, t.Else)
	default:
		s.jump(api.Code{Op: api.CodeIf, A: t.A}, t.To)
		if !isNext(t.Else) {
			s.jump(api.Code{Op: api.CodeJump}, t.Else)
		}
	}
}

// widen makes those jumps Wide that have to be, and returns the addresses of all instructions, and of the end behind them. Instructions only grow, so that a jump that is beyond stays so: the jumps that become Wide are in each set with which all others reach.
func (s *selection) widen() (addresses []int) {
widening:
	for {
		addresses = s.addresses()
		switch far := s.far(addresses); len(far) {
		case 0:
			break widening
		default:
			for _, code := range far {
				s.codes[code].Wide = true
				s.sizes[code] = machine.Size(s.codes[code])
			}
		}
	}
	return addresses
}

func (s *selection) addresses() []int {
	l := make([]int, len(s.sizes)+1)
	for i, size := range s.sizes {
		l[i+1] = l[i] + size
	}
	return l
}

// far returns the indices of the jumps that are not Wide and have to be.
func (s *selection) far(addresses []int) (codes []int) {
	for _, j := range s.jumps {
		if d := s.distance(j, addresses); !s.codes[j.code].Wide && (d < math.MinInt8 || d > math.MaxInt8) {
			codes = append(codes, j.code)
		}
	}
	return codes
}

// distance returns how far behind the end of a jump the block begins to which it leads.
func (s *selection) distance(j jump, addresses []int) int {
	return addresses[s.firsts[j.to]] - addresses[j.code+1]
}

// ops has the Op of each Kind.
var ops = [...]int{
	api.InstrConst:     api.CodeConst,
	api.InstrMove:      api.CodeMove,
	api.InstrUnary:     api.CodeUnary,
	api.InstrBinary:    api.CodeBinary,
	api.InstrLoad:      api.CodeLoad,
	api.InstrStore:     api.CodeStore,
	api.InstrElement:   api.CodeElement,
	api.InstrSet:       api.CodeSet,
	api.InstrRead:      api.CodeRead,
	api.InstrPrint:     api.CodePrint,
	api.InstrCall:      api.CodeCall,
	api.InstrCallValue: api.CodeCallValue,
	api.InstrCount:     api.CodeCount,
	api.InstrFunc:      api.CodeFunc,
}

// translated returns the machine instruction of an instruction. Fields that its Kind does not use are 0, whatever the instruction has there.
func translated(i api.Instr) api.Code {
	c := api.Code{Op: ops[i.Kind]}
	if register, ok := flow.Def(i); ok {
		c.Dst = register
	}
	switch i.Kind {
	case api.InstrUnary, api.InstrBinary:
		c.Arith = i.Op
	case api.InstrConst, api.InstrLoad, api.InstrStore, api.InstrElement, api.InstrSet, api.InstrCall, api.InstrCount, api.InstrFunc:
		c.Value = i.Value
	}
	switch i.Kind {
	case api.InstrMove, api.InstrUnary, api.InstrStore, api.InstrElement, api.InstrPrint:
		c.A = i.A
	case api.InstrBinary, api.InstrSet:
		c.A, c.B = i.A, i.B
	case api.InstrCall:
		c.Args = slices.Clone(i.Args)
	case api.InstrCallValue:
		c.A, c.Args = i.A, slices.Clone(i.Args)
	}
	return c
}
