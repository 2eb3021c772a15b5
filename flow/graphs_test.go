package flow

import (
	"fmt"
	"slices"
	"testing"

	"warmpath/api"
)

func jump(to int) api.Term { return api.Term{Kind: api.TermJump, To: to} }

func branch(a, to, otherwise int) api.Term {
	return api.Term{Kind: api.TermBranch, A: a, To: to, Else: otherwise}
}

func give(a int) api.Term { return api.Term{Kind: api.TermReturn, A: a} }

// graph is a function whose blocks have only ends.
func graph(ends ...api.Term) (f api.Function) {
	f.Regs = 1
	for _, end := range ends {
		f.Blocks = append(f.Blocks, api.Block{Term: end})
	}
	return f
}

func TestKnownGraphs(t *testing.T) {
	for _, c := range []struct {
		f     api.Function
		preds string
	}{
		{graph(give(0)), "[[]]"}, {graph(jump(0)), "[[0]]"}, {graph(branch(0, 0, 0)), "[[0]]"}, {graph(branch(0, 1, 1), give(0)), "[[] [0]]"},
		{graph(branch(0, 1, 2), jump(3), jump(3), give(0)), "[[] [0] [0] [1 2]]"}, {graph(branch(0, 2, 1), jump(3), jump(3), give(0)), "[[] [0] [0] [1 2]]"},
		{graph(jump(2), give(0), branch(0, 3, 1), jump(2)), "[[] [2] [0 3] [2]]"}, {graph(jump(1), branch(0, 0, 1)), "[[1] [0 1]]"},
		{graph(jump(3), branch(0, 1, 0), branch(0, 1, 1), branch(0, 2, 0)), "[[1 3] [1 2] [3] [0]]"},
		{graph(api.Term{Kind: api.TermJump, A: 7, To: 1, Else: 0}, api.Term{Kind: api.TermReturn, To: 1, Else: 1}), "[[] [0]]"},
	} {
		if got := fmt.Sprint(Preds(c.f)); got != c.preds {
			t.Errorf("%v: %s, not %s", c.f, got, c.preds)
		}
		if got := Reach(c.f); len(got) != len(c.f.Blocks) || slices.Contains(got, false) {
			t.Errorf("%v: %v", c.f, got)
		}
	}
}

// TestKnownReach has functions that are not right only because a block is not reached.
func TestKnownReach(t *testing.T) {
	for _, c := range []struct {
		f    api.Function
		want string
	}{
		{graph(give(0), give(0)), "[true false]"}, {graph(jump(0), jump(0)), "[true false]"}, {graph(jump(2), jump(1), give(0)), "[true false true]"}, {graph(jump(2), jump(3), give(0), jump(1)), "[true false true false]"},
		{graph(branch(0, 3, 1), jump(0), jump(0), give(0)), "[true true false true]"}, {graph(api.Term{Kind: api.TermReturn, To: 1, Else: 1}, give(0)), "[true false]"}, {graph(api.Term{Kind: api.TermJump, Else: 1}, give(0)), "[true false]"},
	} {
		if got := fmt.Sprint(Reach(c.f)); got != c.want {
			t.Errorf("%v: %s, not %s", c.f, got, c.want)
		}
	}
}

// ways reports from which blocks to which ones ends lead, by one end or more.
func ways(f api.Function) [][]bool {
	n := len(f.Blocks)
	lead := make([][]bool, n)
	for b := range lead {
		lead[b] = make([]bool, n)
		lead[b][b] = true
		for _, to := range successors(f.Blocks[b].Term) {
			lead[b][to] = true
		}
	}
	for over := range n {
		for from := range n {
			for to := range n {
				lead[from][to] = lead[from][to] || lead[from][over] && lead[over][to]
			}
		}
	}
	return lead
}

func TestRandomReach(t *testing.T) {
	m := newMaker(2)
	left := 0
	for range 5000 {
		f := api.Function{Regs: 1}
		for range 1 + m.Intn(9) {
			end := api.Term{Kind: 1 + m.Intn(3), A: m.any()}
			f.Blocks = append(f.Blocks, api.Block{Term: end})
		}
		for b := range f.Blocks {
			f.Blocks[b].Term.To, f.Blocks[b].Term.Else = m.Intn(len(f.Blocks)), m.Intn(len(f.Blocks))
		}
		got, want := Reach(f), ways(f)[0]
		if !slices.Equal(got, want) {
			t.Fatalf("%v: %v, not %v", f, got, want)
		}
		if slices.Contains(want, false) {
			left++
		}
	}
	if left < 1000 {
		t.Errorf("only %d functions with blocks that are not reached", left)
	}
}

func TestRandomPreds(t *testing.T) {
	m := newMaker(3)
	for range 2000 {
		f := m.function(api.Program{Funcs: make([]api.Function, 1), Callable: 1}, api.Function{Regs: 3}, 1+m.Intn(9), 1)
		preds := Preds(f)
		if len(preds) != len(f.Blocks) {
			t.Fatalf("%v: %v", f, preds)
		}
		for to, got := range preds {
			var want []int
			for from, b := range f.Blocks {
				if slices.Contains(successors(b.Term), to) {
					want = append(want, from)
				}
			}
			if !slices.Equal(got, want) {
				t.Fatalf("%v: %v leads to %d, not %v", f, got, to, want)
			}
		}
	}
}

// TestListsOfResults changes each list of a result: the others stay.
func TestListsOfResults(t *testing.T) {
	m := newMaker(4)
	for range 300 {
		f := m.function(api.Program{Funcs: make([]api.Function, 1), Callable: 1}, api.Function{Regs: 4}, 1+m.Intn(9), 3)
		for _, of := range []func(api.Function) [][]int{Preds, Live} {
			got, want := of(f), of(f)
			for i, l := range got {
				_ = append(l, 99)
				for j := range l {
					l[j] = 98
				}
				if fmt.Sprint(got[i+1:]) != fmt.Sprint(want[i+1:]) {
					t.Fatalf("%v: lists share memory", f)
				}
			}
			if fmt.Sprint(of(f)) != fmt.Sprint(want) {
				t.Fatalf("%v: the function was changed", f)
			}
		}
	}
}
