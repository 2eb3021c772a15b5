package lower

import "warmpath/api"

// builder builds the blocks of a function.
type builder struct {
	names
	number    int            // of the function
	locals    map[string]int // their registers, the first ones
	registers int            // how many are used
	begun     []*block       // the last one is being built
}

// block is a block whose end may lead to blocks that have not begun, and so have no numbers.
type block struct {
	api.Block
	to, otherwise *block
	led           bool // an end leads to it
}

// newBlock is a block that is to begin later.
func newBlock(line int) *block { return &block{Block: api.Block{Line: line}} }

// begin gives a block its number, and goes on in it.
func (b *builder) begin(x *block) {
	x.Origin = api.Spot{Func: b.number, Block: len(b.begun)}
	b.begun = append(b.begun, x)
}

func (b *builder) current() *block { return b.begun[len(b.begun)-1] }

func (b *builder) add(i api.Instr) {
	x := b.current()
	x.Instrs = append(x.Instrs, i)
}

func (b *builder) jump(to *block) {
	x := b.current()
	x.Term.Kind = api.TermJump
	x.to, to.led = to, true
}

func (b *builder) branch(register int, to, otherwise *block) {
	x := b.current()
	x.Term = api.Term{Kind: api.TermBranch, A: register}
	x.to, to.led = to, true
	x.otherwise, otherwise.led = otherwise, true
}

func (b *builder) give(register int) {
	b.current().Term = api.Term{Kind: api.TermReturn, A: register}
}

// blocks are the blocks when all have begun.
func (b *builder) blocks() []api.Block {
	l := make([]api.Block, len(b.begun))
	for i, x := range b.begun {
		if x.to != nil {
			x.Term.To = x.to.Origin.Block
		}
		if x.otherwise != nil {
			x.Term.Else = x.otherwise.Origin.Block
		}
		l[i] = x.Block
	}
	return l
}
