package dominate

import (
	"math/rand"

	"warmpath/api"
)

const (
	smallest = -1 << 63
	greatest = 1<<63 - 1
)

func jump(to int) api.Term { return api.Term{Kind: api.TermJump, To: to} }

func branch(to, otherwise int) api.Term {
	return api.Term{Kind: api.TermBranch, To: to, Else: otherwise}
}

func give() api.Term { return api.Term{Kind: api.TermReturn} }

// graph is a function whose blocks have only ends.
func graph(ends ...api.Term) api.Function {
	f := api.Function{Regs: 1}
	for _, end := range ends {
		f.Blocks = append(f.Blocks, api.Block{Term: end})
	}
	return f
}

// maker makes random functions all of whose blocks are reached.
type maker struct{ *rand.Rand }

func newMaker(seed int64) maker { return maker{rand.New(rand.NewSource(seed))} }

// any is a number for a field that does not matter.
func (m maker) any() int { return []int{0, 1, 2, -1, 300, smallest, greatest}[m.Intn(7)] }

// end is an end that leads at least to some blocks, and anywhere else. Returns are rare, the more so the greater few is.
func (m maker) end(next []int, blocks, few int) api.Term {
	t := api.Term{Kind: api.TermReturn, To: m.any(), Else: m.any()}
	if len(next) == 2 || m.Intn(2) == 0 {
		t.Kind = api.TermBranch
	} else if len(next) == 1 || m.Intn(few) > 0 {
		t.Kind = api.TermJump
	}
	for len(next) < 2 {
		next = append(next, m.Intn(blocks))
	}
	if t.Kind == api.TermBranch && m.Intn(2) == 0 {
		next[0], next[1] = next[1], next[0]
	}
	switch t.Kind {
	case api.TermJump:
		t.To = next[0]
	case api.TermBranch:
		t.To, t.Else = next[0], next[1]
	}
	return t
}

// function is a function with a tree of blocks, which are led to from the block 0, and with other edges.
func (m maker) function(blocks int) api.Function {
	number := []int{0}
	for _, b := range m.Perm(blocks - 1) {
		number = append(number, b+1)
	}
	children := make([][]int, blocks)
	long := m.Intn(4) // ways of the tree: the greater, the longer
	for i := 1; i < blocks; {
		parent := number[m.Intn(i)]
		if m.Intn(4) < long {
			parent = number[i-1]
		}
		if len(children[parent]) < 2 {
			children[parent] = append(children[parent], number[i])
			i++
		}
	}
	few := 1 + m.Intn(6)
	var ends []api.Term
	for _, next := range children {
		ends = append(ends, m.end(next, blocks, few))
	}
	return graph(ends...)
}
