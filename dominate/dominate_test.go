package dominate

import (
	"fmt"
	"testing"

	"warmpath/api"
)

// TestKnownGraphs has functions with what was worked out by hand for them.
func TestKnownGraphs(t *testing.T) {
	for _, c := range []struct {
		f           api.Function
		order, idom string
	}{
		{graph(give()), "[0]", "[-1]"},
		{graph(jump(0)), "[0]", "[-1]"},
		{graph(branch(0, 0)), "[0]", "[-1]"},
		{graph(jump(1), give()), "[0 1]", "[-1 0]"},
		{graph(jump(2), give(), jump(1)), "[0 2 1]", "[-1 2 0]"},
		// The first successor is visited first, and so comes last.
		{graph(branch(1, 2), give(), give()), "[0 2 1]", "[-1 0 0]"},
		{graph(branch(2, 1), give(), give()), "[0 1 2]", "[-1 0 0]"},
		{graph(branch(1, 1), give()), "[0 1]", "[-1 0]"},
		{graph(branch(1, 2), jump(3), jump(3), give()), "[0 2 1 3]", "[-1 0 0 0]"},
		{graph(branch(1, 2), jump(2), give()), "[0 1 2]", "[-1 0 0]"},
		{graph(branch(2, 1), jump(2), give()), "[0 1 2]", "[-1 0 0]"},
		{graph(jump(1), branch(2, 3), jump(1), give()), "[0 1 3 2]", "[-1 0 1 1]"},
		{graph(jump(1), branch(3, 2), jump(1), give()), "[0 1 2 3]", "[-1 0 1 1]"},
		{graph(jump(1), branch(0, 1)), "[0 1]", "[-1 0]"},
		// A cycle with two entries: neither of its blocks dominates the other one.
		{graph(branch(1, 2), jump(2), jump(1)), "[0 1 2]", "[-1 0 0]"},
		{graph(branch(2, 1), jump(2), jump(1)), "[0 2 1]", "[-1 0 0]"},
		// The way to 3 that does not pass 4 goes over 1 and 2, which come behind 3: it is noticed in the third round over the order.
		{graph(branch(4, 1), jump(2), branch(1, 3), branch(2, 5), jump(3), give()), "[0 4 3 5 2 1]", "[-1 0 0 0 0 3]"},
		{graph(api.Term{Kind: api.TermJump, To: 1, Else: 2, A: -1}, branch(1, 2), api.Term{Kind: api.TermReturn, To: 1, Else: 99}), "[0 1 2]", "[-1 0 1]"},
	} {
		if got := fmt.Sprint(Order(c.f)); got != c.order {
			t.Errorf("%v: order %s, not %s", c.f, got, c.order)
		}
		if got := fmt.Sprint(Idom(c.f)); got != c.idom {
			t.Errorf("%v: dominators %s, not %s", c.f, got, c.idom)
		}
		compare(t, c.f)
		compareDominates(t, c.f)
	}
}

// TestBlocksThatAreNone asks for blocks that a function does not have.
func TestBlocksThatAreNone(t *testing.T) {
	f := graph(jump(1), branch(1, 2), give())
	for _, a := range []int{-1, 3, 4, -2, 99, smallest, greatest} {
		for _, b := range []int{-1, 0, 1, 2, 3, smallest, greatest} {
			if Dominates(f, a, b) || Dominates(f, b, a) {
				t.Errorf("%d and %d", a, b)
			}
		}
		if l := Loop(f, a); len(l) > 0 {
			t.Errorf("the loop with the head %d: %v", a, l)
		}
	}
	if !Dominates(f, 1, 1) || !Dominates(f, 0, 2) || Dominates(f, 2, 1) {
		t.Error("blocks that are some")
	}
}

// TestAllSmallGraphs has each function of up to four blocks all of which are reached.
func TestAllSmallGraphs(t *testing.T) {
	for blocks := range 5 {
		ends := []api.Term{give()}
		for to := range blocks {
			ends = append(ends, jump(to))
			for otherwise := range blocks {
				ends = append(ends, branch(to, otherwise))
			}
		}
		f, seen := graph(make([]api.Term, blocks)...), 0
		var choose func(b int)
		choose = func(b int) {
			if b < blocks {
				for _, f.Blocks[b].Term = range ends {
					choose(b + 1)
				}
			} else if isReached(f) {
				compare(t, f)
				compareDominates(t, f)
				seen++
			}
		}
		choose(0)
		if want := []int{0, 3, 28, 962, 69048}[blocks]; seen != want {
			t.Errorf("%d functions with %d blocks", seen, blocks)
		}
	}
}

// isReached reports whether all blocks are reached.
func isReached(f api.Function) bool {
	if len(f.Blocks) == 0 {
		return false
	}
	for _, mark := range read(f).from(0, func(api.Edge) bool { return true }) {
		if !mark {
			return false
		}
	}
	return true
}
