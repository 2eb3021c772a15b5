package flow

import (
	"slices"

	"warmpath/api"
)

// Same reports whether two programs are equal in all fields.
func Same(a, b api.Program) bool {
	return slices.Equal(a.Globals, b.Globals) && slices.EqualFunc(a.Funcs, b.Funcs, SameFunc) && a.Callable == b.Callable && a.Counters == b.Counters
}

// SameFunc reports whether two functions are equal in all fields.
func SameFunc(a, b api.Function) bool {
	return a.Name == b.Name && a.Params == b.Params && a.Regs == b.Regs && slices.EqualFunc(a.Blocks, b.Blocks, sameBlock)
}

func sameBlock(a, b api.Block) bool {
	return slices.EqualFunc(a.Instrs, b.Instrs, sameInstr) && a.Term == b.Term && a.Line == b.Line && a.Origin == b.Origin
}

func sameInstr(a, b api.Instr) bool {
	return a.Kind == b.Kind && a.Op == b.Op && a.Dst == b.Dst && a.A == b.A && a.B == b.B && a.Value == b.Value && slices.Equal(a.Args, b.Args)
}
