package dominate

import (
	"fmt"
	"testing"

	"warmpath/api"
)

// loops writes all loops of a function, with their heads.
func loops(f api.Function) string {
	text := ""
	for head := range f.Blocks {
		if l := Loop(f, head); len(l) > 0 {
			text += fmt.Sprint(head, ":", l, " ")
		}
	}
	return text
}

// TestKnownLoops has functions with what was worked out by hand for them.
func TestKnownLoops(t *testing.T) {
	for _, c := range []struct {
		f                   api.Function
		backs, loops, depth string
		reducible           bool
	}{
		{graph(give()), "[]", "", "[0]", true},
		{graph(jump(1), give()), "[]", "", "[0 0]", true},
		{graph(branch(1, 2), jump(2), give()), "[]", "", "[0 0 0]", true},
		{graph(jump(0)), "[{0 0}]", "0:[0] ", "[1]", true},
		{graph(branch(0, 0)), "[{0 0}]", "0:[0] ", "[1]", true},
		{graph(jump(1), branch(2, 3), jump(1), give()), "[{2 1}]", "1:[1 2] ", "[0 1 1 0]", true},
		// What leaves the body for good belongs to no loop.
		{graph(jump(1), branch(2, 3), branch(4, 1), give(), give()), "[{2 1}]", "1:[1 2] ", "[0 1 1 0 0]", true},
		// Two back edges to one head make one loop.
		{graph(jump(1), branch(2, 3), branch(1, 4), give(), jump(1)), "[{2 1} {4 1}]", "1:[1 2 4] ", "[0 1 1 0 1]", true},
		{graph(jump(1), branch(2, 3), jump(1), jump(1)), "[{2 1} {3 1}]", "1:[1 2 3] ", "[0 1 1 1]", true},
		// One end has two back edges, which are in the order of their ends, whichever comes first.
		{graph(jump(1), jump(2), branch(1, 0)), "[{2 0} {2 1}]", "0:[0 1 2] 1:[1 2] ", "[1 2 2]", true},
		{graph(jump(1), jump(2), branch(0, 1)), "[{2 0} {2 1}]", "0:[0 1 2] 1:[1 2] ", "[1 2 2]", true},
		{graph(jump(1), jump(2), branch(2, 1)), "[{2 1} {2 2}]", "1:[1 2] 2:[2] ", "[0 1 2]", true},
		// A loop within a loop within a loop.
		{graph(jump(1), branch(2, 7), jump(3), branch(4, 6), branch(4, 5), jump(3), jump(1), give()), "[{4 4} {5 3} {6 1}]", "1:[1 2 3 4 5 6] 3:[3 4 5] 4:[4] ", "[0 1 1 2 3 2 1 0]", true},
		// Two loops beside each other, and two with a block in common that is the head of none.
		{graph(jump(1), branch(1, 2), branch(2, 3), give()), "[{1 1} {2 2}]", "1:[1] 2:[2] ", "[0 1 1 0]", true},
		{graph(jump(1), branch(2, 3), branch(1, 0), give()), "[{2 0} {2 1}]", "0:[0 1 2] 1:[1 2] ", "[1 2 2 0]", true},
		// Cycles with two entries are no loops.
		{graph(branch(1, 2), jump(2), jump(1)), "[]", "", "[0 0 0]", false},
		{graph(branch(1, 2), branch(1, 2), give()), "[{1 1}]", "1:[1] ", "[0 1 0]", true},
		{graph(branch(1, 2), branch(1, 2), branch(1, 2)), "[{1 1} {2 2}]", "1:[1] 2:[2] ", "[0 1 1]", false},
		{graph(jump(1), branch(2, 3), branch(3, 1), jump(2)), "[{2 1}]", "1:[1 2 3] ", "[0 1 1 1]", false},
		{graph(branch(1, 2), branch(2, 3), branch(1, 0), give()), "[{2 0}]", "0:[0 1 2] ", "[1 1 1 0]", false},
	} {
		if got := fmt.Sprint(Backs(c.f)); got != c.backs {
			t.Errorf("%v: back edges %s, not %s", c.f, got, c.backs)
		}
		if got := loops(c.f); got != c.loops {
			t.Errorf("%v: loops %s, not %s", c.f, got, c.loops)
		}
		if got := fmt.Sprint(Depth(c.f)); got != c.depth {
			t.Errorf("%v: depth %s, not %s", c.f, got, c.depth)
		}
		if got := Reducible(c.f); got != c.reducible {
			t.Errorf("%v: reducible %t", c.f, got)
		}
		compare(t, c.f)
	}
}

// nest is a function with loops one within the other: first the heads, then the blocks that lead back to them.
func nest(heads int) api.Function {
	f := graph()
	for h := range heads {
		f.Blocks = append(f.Blocks, api.Block{Term: branch(h+1, 2*heads-h)})
	}
	f.Blocks = append(f.Blocks, api.Block{Term: jump(heads - 1)})
	for h := range heads - 1 {
		f.Blocks = append(f.Blocks, api.Block{Term: jump(heads - 2 - h)})
	}
	f.Blocks = append(f.Blocks, api.Block{Term: give()})
	return f
}

func TestGreatestNest(t *testing.T) {
	heads := (api.MaxBlocks - 1) / 2
	f := nest(heads)
	depth := Depth(f)
	for h := range heads {
		if l := Loop(f, h); len(l) != 2*(heads-h) || l[0] != h || depth[h] != h+1 || depth[2*heads-1-h] != h+1 {
			t.Fatalf("head %d: %v, depth %d", h, l, depth[h])
		}
	}
	if l := Backs(f); len(l) != heads || !Reducible(f) || depth[2*heads] != 0 {
		t.Errorf("%v, depth %d", l, depth[2*heads])
	}
}
