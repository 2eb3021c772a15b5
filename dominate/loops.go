package dominate

import (
	"cmp"
	"slices"

	"warmpath/api"
	"warmpath/flow"
)

// edges returns the edges of a function, ascending, each once.
func edges(f api.Function) (l []api.Edge) {
	for from, b := range f.Blocks {
		for _, to := range flow.Next(b.Term) {
			l = append(l, api.Edge{From: from, To: to})
		}
	}
	slices.SortFunc(l, func(a, b api.Edge) int {
		return cmp.Or(cmp.Compare(a.From, b.From), cmp.Compare(a.To, b.To))
	})
	return l
}

// Backs returns the back edges.
func Backs(f api.Function) []api.Edge {
	idom := Idom(f)
	return slices.DeleteFunc(edges(f), func(e api.Edge) bool { return !isAbove(idom, e.To, e.From) })
}

// members marks the blocks of the loop with a head.
func members(preds [][]int, backs []api.Edge, head int) []bool {
	marks := make([]bool, len(preds))
	var collect func(b int)
	collect = func(b int) {
		if marks[b] {
			return
		}
		marks[b] = true
		for _, p := range preds[b] {
			collect(p)
		}
	}
	for _, e := range backs {
		if e.To == head {
			// A head that is marked already is not passed.
			marks[head] = true
			collect(e.From)
		}
	}
	return marks
}

// Loop returns the blocks of a loop.
func Loop(f api.Function, head int) []int {
	var l []int
	for b, marked := range members(flow.Preds(f), Backs(f), head) {
		if marked {
			l = append(l, b)
		}
	}
	return l
}

// Depth returns in how many loops each block is.
func Depth(f api.Function) []int {
	depth := make([]int, len(f.Blocks))
	preds, backs := flow.Preds(f), Backs(f)
	for head := range f.Blocks {
		for b, marked := range members(preds, backs, head) {
			if marked {
				depth[b]++
			}
		}
	}
	return depth
}

// Reducible reports whether all cycles are loops. Each cycle has an edge that does not lead forward in Order; and if such an edge is no back edge, it closes a cycle with the way of the search, which has none.
func Reducible(f api.Function) bool {
	place, idom := places(Order(f)), Idom(f)
	return !slices.ContainsFunc(edges(f), func(e api.Edge) bool {
		return place[e.To] <= place[e.From] && !isAbove(idom, e.To, e.From)
	})
}
