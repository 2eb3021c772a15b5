package flow

import "warmpath/api"

// worklist is what was found and is still to be followed up.
type worklist[T any] struct{ found []T }

func (w *worklist[T]) add(x T) { w.found = append(w.found, x) }

func (w *worklist[T]) more() bool { return len(w.found) > 0 }

// take takes out what was added last.
func (w *worklist[T]) take() T {
	last := len(w.found) - 1
	x := w.found[last]
	w.found = w.found[:last]
	return x
}

// Reach reports which blocks are reached from the block 0.
func Reach(f api.Function) []bool {
	reached := make([]bool, len(f.Blocks))
	reached[0] = true
	work := worklist[int]{[]int{0}}
	for work.more() {
		for _, b := range Next(f.Blocks[work.take()].Term) {
			if !reached[b] {
				reached[b] = true
				work.add(b)
			}
		}
	}
	return reached
}

// Preds returns for each block the blocks that lead to it.
func Preds(f api.Function) [][]int {
	preds := make([][]int, len(f.Blocks))
	for from, b := range f.Blocks {
		for _, to := range Next(b.Term) {
			preds[to] = append(preds[to], from)
		}
	}
	return preds
}
