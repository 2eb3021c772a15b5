package lower

import "warmpath/api"

// first is the register into which the values of statements are computed, the first one that is no local.
func (b *builder) first() int { return len(b.locals) }

// stmts reports whether the end of a list of statements is reached. What is behind a statement that does not lead there is left out.
func (b *builder) stmts(l []api.Stmt) bool {
	for _, s := range l {
		if !b.stmt(s) {
			return false
		}
	}
	return true
}

// stmt reports whether the end of a statement is reached.
func (b *builder) stmt(s api.Stmt) bool {
	switch s.Kind {
	case api.StmtIf:
		return b.choice(s)
	case api.StmtWhile:
		b.loop(s)
	default:
		b.exprs(s.Exprs, b.first())
		b.useValue(s)
	}
	return s.Kind != api.StmtReturn
}

// useValue does what a statement is for, when its values are computed.
func (b *builder) useValue(s api.Stmt) {
	value := b.first()
	switch s.Kind {
	case api.StmtVar, api.StmtAssign:
		if register, local := b.locals[s.Name]; local {
			b.add(api.Instr{Kind: api.InstrMove, Dst: register, A: value})
		} else {
			b.add(api.Instr{Kind: api.InstrStore, Value: b.globals[s.Name], A: value})
		}
	case api.StmtStore:
		b.add(api.Instr{Kind: api.InstrSet, Value: b.globals[s.Name], A: value, B: value + 1})
	case api.StmtReturn:
		b.give(value)
	case api.StmtPrint:
		b.add(api.Instr{Kind: api.InstrPrint, A: value})
	}
}

// choice is an if; it reports whether its end is reached.
func (b *builder) choice(s api.Stmt) bool {
	then, behind := newBlock(s.Line), newBlock(s.Line)
	otherwise := behind
	if len(s.Else) > 0 {
		otherwise = newBlock(s.Line)
	}
	b.condition(s, then, otherwise)
	b.path(then, s.Then, behind)
	if len(s.Else) > 0 {
		b.path(otherwise, s.Else, behind)
	}
	if behind.led {
		b.begin(behind)
	}
	return behind.led
}

func (b *builder) loop(s api.Stmt) {
	head, body, behind := newBlock(s.Line), newBlock(s.Line), newBlock(s.Line)
	b.jump(head)
	b.begin(head)
	b.condition(s, body, behind)
	b.path(body, s.Then, head)
	b.begin(behind)
}

// condition leads to one of two blocks.
func (b *builder) condition(s api.Stmt, to, otherwise *block) {
	b.exprs(s.Exprs, b.first())
	b.branch(b.first(), to, otherwise)
}

// path is a list of statements in a block of its own, with what follows it.
func (b *builder) path(x *block, l []api.Stmt, next *block) {
	b.begin(x)
	if b.stmts(l) {
		b.jump(next)
	}
}
