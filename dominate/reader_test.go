package dominate

import (
	"fmt"
	"slices"
	"testing"

	"warmpath/api"
)

// reader finds out what the chapter says of a function, from its words alone.
type reader struct {
	next [][]int
	dom  [][]bool // dom[a][b]: a dominates b
}

func read(f api.Function) *reader {
	r := &reader{}
	for _, b := range f.Blocks {
		var l []int
		if t := b.Term; t.Kind == api.TermJump || t.Kind == api.TermBranch {
			l = append(l, t.To)
			if t.Kind == api.TermBranch && t.Else != t.To {
				l = append(l, t.Else)
			}
		}
		r.next = append(r.next, l)
	}
	for a := range r.next {
		without := r.from(0, func(e api.Edge) bool { return e.From != a && e.To != a })
		row := make([]bool, len(r.next))
		for b := range row {
			row[b] = a == 0 || a == b || !without[b]
		}
		r.dom = append(r.dom, row)
	}
	return r
}

// from marks the blocks to which the edges that may be used lead from a block, and this block.
func (r *reader) from(b int, may func(api.Edge) bool) []bool {
	marks := make([]bool, len(r.next))
	marks[b] = true
	for found := []int{b}; len(found) > 0; found = found[1:] {
		for _, to := range r.next[found[0]] {
			if !marks[to] && may(api.Edge{From: found[0], To: to}) {
				marks[to] = true
				found = append(found, to)
			}
		}
	}
	return marks
}

// order keeps for each block that is being visited which of its successors comes next.
func (r *reader) order() []int {
	var written []int
	at, visited := make([]int, len(r.next)), make([]bool, len(r.next))
	visited[0] = true
	for open := []int{0}; len(open) > 0; {
		b := open[len(open)-1]
		if at[b] == len(r.next[b]) {
			written = append([]int{b}, written...)
			open = open[:len(open)-1]
			continue
		}
		to := r.next[b][at[b]]
		at[b]++
		if !visited[to] {
			visited[to] = true
			open = append(open, to)
		}
	}
	return written
}

// idom is for each block the one dominator, other than itself, that all others dominate.
func (r *reader) idom(t *testing.T) []int {
	l := make([]int, len(r.next))
	for b := range l {
		var all, nearest []int
		for a := range l {
			if a != b && r.dom[a][b] {
				all = append(all, a)
			}
		}
		for _, a := range all {
			if !slices.ContainsFunc(all, func(other int) bool { return !r.dom[other][a] }) {
				nearest = append(nearest, a)
			}
		}
		if b == 0 {
			nearest = append(nearest, -1)
		}
		if len(nearest) != 1 {
			t.Fatalf("%v: the block %d has %v", r.next, b, nearest)
		}
		l[b] = nearest[0]
	}
	return l
}

func (r *reader) isBack(e api.Edge) bool {
	return slices.Contains(r.next[e.From], e.To) && r.dom[e.To][e.From]
}

func (r *reader) backs() (l []api.Edge) {
	for from := range r.next {
		for to := range r.next {
			if e := (api.Edge{From: from, To: to}); r.isBack(e) {
				l = append(l, e)
			}
		}
	}
	return l
}

func (r *reader) loop(head int) (l []int) {
	var ends []int
	for _, e := range r.backs() {
		if e.To == head {
			ends = append(ends, e.From)
		}
	}
	if ends == nil {
		return nil
	}
	for b := range r.next {
		marks := r.from(b, func(e api.Edge) bool { return e.From != head && e.To != head })
		if b == head || slices.ContainsFunc(ends, func(end int) bool { return marks[end] }) {
			l = append(l, b)
		}
	}
	return l
}

func (r *reader) reducible() bool {
	rest := func(e api.Edge) bool { return !r.isBack(e) }
	for from, l := range r.next {
		for _, to := range l {
			if rest(api.Edge{From: from, To: to}) && r.from(to, rest)[from] {
				return false
			}
		}
	}
	return true
}

// compare compares all functions with what the chapter says of a function.
func compare(t *testing.T, f api.Function) {
	t.Helper()
	r := read(f)
	equal := func(what string, got, want any) {
		if g, w := fmt.Sprint(got), fmt.Sprint(want); g != w {
			t.Fatalf("%v: %s %s, not %s", r.next, what, g, w)
		}
	}
	equal("Order", Order(f), r.order())
	equal("Idom", Idom(f), r.idom(t))
	equal("Backs", Backs(f), r.backs())
	equal("Reducible", Reducible(f), r.reducible())
	depth := make([]int, len(f.Blocks))
	for a := range f.Blocks {
		loop := r.loop(a)
		equal(fmt.Sprint("Loop ", a), Loop(f, a), loop)
		for _, b := range loop {
			depth[b]++
		}
	}
	equal("Depth", Depth(f), depth)
}

// compareDominates has a function of its own, as it is asked for each pair of blocks.
func compareDominates(t *testing.T, f api.Function) {
	t.Helper()
	r := read(f)
	for a := range f.Blocks {
		for b := range f.Blocks {
			if got := Dominates(f, a, b); got != r.dom[a][b] {
				t.Fatalf("%v: %d dominates %d: %t", r.next, a, b, got)
			}
		}
	}
}
