package flow

import (
	"slices"

	"warmpath/api"
)

// Next returns the blocks to which an end leads.
func Next(t api.Term) []int {
	switch {
	case t.Kind == api.TermJump || t.Kind == api.TermBranch && t.To == t.Else:
		return []int{t.To}
	case t.Kind == api.TermBranch:
		return []int{t.To, t.Else}
	}
	return nil
}

// reads returns the registers that an end reads.
func reads(t api.Term) []int {
	switch t.Kind {
	case api.TermBranch, api.TermReturn:
		return []int{t.A}
	}
	return nil
}

// Uses returns the registers that an instruction reads.
func Uses(i api.Instr) []int {
	switch i.Kind {
	case api.InstrMove, api.InstrUnary, api.InstrStore, api.InstrElement, api.InstrPrint:
		return []int{i.A}
	case api.InstrBinary, api.InstrSet:
		return []int{i.A, i.B}
	case api.InstrCall:
		return slices.Clone(i.Args)
	case api.InstrCallValue:
		return append([]int{i.A}, i.Args...)
	}
	return nil
}

// Def returns the register that an instruction writes, if it writes one.
func Def(i api.Instr) (int, bool) {
	switch i.Kind {
	case api.InstrConst, api.InstrMove, api.InstrUnary, api.InstrBinary, api.InstrLoad, api.InstrElement, api.InstrRead, api.InstrCall, api.InstrCallValue, api.InstrFunc:
		return i.Dst, true
	}
	return 0, false
}

// Size returns the number of instructions and ends.
func Size(f api.Function) int {
	size := len(f.Blocks)
	for _, b := range f.Blocks {
		size += len(b.Instrs)
	}
	return size
}
