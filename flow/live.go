package flow

import "warmpath/api"

// place is a register at the beginning of a block.
type place struct{ block, register int }

// Live returns for each block the registers that are live at its beginning.
func Live(f api.Function) [][]int {
	live, written := make([][]bool, len(f.Blocks)), make([][]bool, len(f.Blocks))
	var work worklist[place]
	for b := range f.Blocks {
		live[b], written[b] = touched(f.Blocks[b], f.Regs)
		for _, r := range marked(live[b]) {
			work.add(place{b, r})
		}
	}
	preds := Preds(f)
	for work.more() {
		at := work.take()
		for _, b := range preds[at.block] {
			if !written[b][at.register] && !live[b][at.register] {
				live[b][at.register] = true
				work.add(place{b, at.register})
			}
		}
	}
	registers := make([][]int, len(f.Blocks))
	for b := range registers {
		registers[b] = marked(live[b])
	}
	return registers
}

// touched marks the registers that a block reads before it writes them, and those that it writes.
func touched(b api.Block, registers int) (read, written []bool) {
	read, written = make([]bool, registers), make([]bool, registers)
	use := func(l []int) {
		for _, r := range l {
			read[r] = read[r] || !written[r]
		}
	}
	for _, i := range b.Instrs {
		use(Uses(i))
		if r, ok := Def(i); ok {
			written[r] = true
		}
	}
	use(reads(b.Term))
	return read, written
}

// marked returns the indices of marks, ascending.
func marked(marks []bool) (l []int) {
	for i, mark := range marks {
		if mark {
			l = append(l, i)
		}
	}
	return l
}
