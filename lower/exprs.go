package lower

import "warmpath/api"

// exprs computes the values of expressions into a register and those behind it, which it returns.
func (b *builder) exprs(l []api.Expr, register int) (registers []int) {
	for i, x := range l {
		b.expr(x, register+i)
		registers = append(registers, register+i)
	}
	return registers
}

// expr computes the value of an expression into a register.
func (b *builder) expr(x api.Expr, register int) {
	b.registers = max(b.registers, register+1)
	switch x.Kind {
	case api.ExprAnd, api.ExprOr:
		b.logic(x, register)
	case api.ExprElement, api.ExprUnary, api.ExprBinary, api.ExprCall, api.ExprValue:
		b.add(b.operation(x, register, b.exprs(x.Args, register)))
	default:
		b.add(b.leaf(x, register))
	}
}

// leaf is the instruction of an expression without operands.
func (b *builder) leaf(x api.Expr, register int) api.Instr {
	i := api.Instr{Dst: register}
	switch x.Kind {
	case api.ExprNumber:
		i.Kind, i.Value = api.InstrConst, x.Value
	case api.ExprFunc:
		i.Kind, i.Value = api.InstrFunc, b.functions[x.Name]
	case api.ExprLocal:
		i.Kind, i.A = api.InstrMove, b.locals[x.Name]
	case api.ExprGlobal:
		i.Kind, i.Value = api.InstrLoad, b.globals[x.Name]
	case api.ExprRead:
		i.Kind = api.InstrRead
	}
	return i
}

// operation is the instruction of an expression whose operands, in registers from its own one on, are computed.
func (b *builder) operation(x api.Expr, register int, operands []int) api.Instr {
	i := api.Instr{Dst: register}
	switch x.Kind {
	case api.ExprElement:
		i.Kind, i.A, i.Value = api.InstrElement, register, b.globals[x.Name]
	case api.ExprUnary:
		i.Kind, i.Op, i.A = api.InstrUnary, x.Op, register
	case api.ExprBinary:
		i.Kind, i.Op, i.A, i.B = api.InstrBinary, x.Op, register, register+1
	case api.ExprCall:
		i.Kind, i.Value, i.Args = api.InstrCall, b.functions[x.Name], operands
	case api.ExprValue:
		i.Kind, i.A, i.Args = api.InstrCallValue, register, operands[1:]
	}
	return i
}

// logic is && or ||: its right operand is computed only if the left one does not decide it.
func (b *builder) logic(x api.Expr, register int) {
	right, holds, fails, behind := newBlock(x.Line), newBlock(x.Line), newBlock(x.Line), newBlock(x.Line)
	b.expr(x.Args[0], register)
	if x.Kind == api.ExprAnd {
		b.branch(register, right, fails)
	} else {
		b.branch(register, holds, right)
	}
	b.begin(right)
	b.expr(x.Args[1], register)
	b.branch(register, holds, fails)
	b.known(holds, 1, register, behind)
	b.known(fails, 0, register, behind)
	b.begin(behind)
}

// known is a block in which a value is known.
func (b *builder) known(x *block, value, register int, next *block) {
	b.begin(x)
	b.add(api.Instr{Kind: api.InstrConst, Dst: register, Value: value})
	b.jump(next)
}
