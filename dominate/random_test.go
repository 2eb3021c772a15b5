package dominate

import (
	"fmt"
	"slices"
	"testing"

	"warmpath/api"
	"warmpath/flow"
)

func TestRandomGraphs(t *testing.T) {
	m := newMaker(1)
	left, most := 0, 0
	for range 6000 {
		f := m.function(1 + m.Intn(14))
		if e := flow.Check(api.Program{Funcs: []api.Function{f}}); e != api.OK {
			t.Fatalf("%v: error %d", f, e)
		}
		compare(t, f)
		compareDominates(t, f)
		if !Reducible(f) {
			left++
		}
		most = max(most, slices.Max(Depth(f)))
	}
	if left < 1000 || left > 5000 || most < 4 {
		t.Errorf("%d functions are not reducible; up to %d loops around a block", left, most)
	}
}

func TestGreatGraphs(t *testing.T) {
	m := newMaker(2)
	for _, blocks := range []int{30, 60, 60, 100, 100} {
		compare(t, m.function(blocks))
	}
	for range 20 {
		consequences(t, m.function(api.MaxBlocks))
	}
}

// TestManyRounds has a function whose dominators are known only after as many rounds as it has blocks: the blocks lead to each other in both directions, and each round over the order brings one block nearer to the first what the way to the last one says.
func TestManyRounds(t *testing.T) {
	const last = api.MaxBlocks - 1
	f := graph(branch(1, last))
	order, idom := []int{0}, []int{-1}
	for b := 1; b <= last; b++ {
		f.Blocks = append(f.Blocks, api.Block{Term: branch(min(b+1, last), max(b-1, 1))})
		order, idom = append(order, b), append(idom, 0)
	}
	if got := Order(f); !slices.Equal(got, order) {
		t.Errorf("order %v", got)
	}
	if got := Idom(f); !slices.Equal(got, idom) {
		t.Errorf("dominators %v", got)
	}
	if got := fmt.Sprint(Backs(f)); got != "[{1 1} {255 255}]" || Reducible(f) {
		t.Errorf("back edges %s", got)
	}
}

// consequences checks what follows from the promises.
func consequences(t *testing.T, f api.Function) {
	t.Helper()
	order := Order(f)
	place := make([]int, len(f.Blocks))
	for i, b := range order {
		place[b] = i
	}
	sorted := slices.Sorted(slices.Values(order))
	if order[0] != 0 || len(sorted) != len(f.Blocks) || len(slices.Compact(sorted)) != len(f.Blocks) {
		t.Fatalf("%v: %v", f, order)
	}
	for b, d := range Idom(f) {
		if b == 0 != (d == -1) || b > 0 && (place[d] >= place[b] || !Dominates(f, d, b)) {
			t.Fatalf("%v: %d ahead of %d", f, d, b)
		}
	}
	depth := make([]int, len(f.Blocks))
	for head := range f.Blocks {
		for _, b := range Loop(f, head) {
			depth[b]++
			if !Dominates(f, head, b) || Dominates(f, b, head) != (b == head) {
				t.Fatalf("%v: the head %d and %d", f, head, b)
			}
		}
	}
	if !slices.Equal(depth, Depth(f)) {
		t.Fatalf("%v: %v, not %v", f, Depth(f), depth)
	}
}

func TestConsequences(t *testing.T) {
	m := newMaker(3)
	for range 1000 {
		consequences(t, m.function(1+m.Intn(30)))
	}
}

// TestFieldsThatDoNotMatter changes the fields that an end does not use, and instructions.
func TestFieldsThatDoNotMatter(t *testing.T) {
	m := newMaker(4)
	all := func(f api.Function) string {
		return fmt.Sprint(Order(f), Idom(f), Backs(f), loops(f), Depth(f), Reducible(f))
	}
	for range 500 {
		f := m.function(1 + m.Intn(9))
		want := all(f)
		for b := range f.Blocks {
			x := &f.Blocks[b]
			x.Term.A, x.Line, x.Origin = 0, m.any(), api.Spot{Func: m.any(), Block: m.any()}
			x.Instrs = slices.Repeat([]api.Instr{{Kind: api.InstrRead}}, m.Intn(3))
			if x.Term.Kind != api.TermBranch {
				x.Term.Else = m.any()
			}
			if x.Term.Kind == api.TermReturn {
				x.Term.To = m.any()
			}
		}
		f.Name = "g"
		if got := all(f); got != want {
			t.Fatalf("%v: %s, not %s", f, got, want)
		}
	}
}

// TestMemory writes into results, and looks whether a function or later results have changed.
func TestMemory(t *testing.T) {
	m := newMaker(5)
	for range 500 {
		f := m.function(1 + m.Intn(9))
		room := append(f.Blocks, api.Block{Line: 7})
		f.Blocks = room[:len(f.Blocks)]
		before := fmt.Sprint(room)
		results := func() [][]int {
			l := [][]int{Order(f), Idom(f), Depth(f)}
			for head := range f.Blocks {
				l = append(l, Loop(f, head))
			}
			return l
		}
		got := results()
		want, backs := fmt.Sprint(got), Backs(f)
		written := fmt.Sprint(backs)
		for i, l := range got {
			rest := fmt.Sprint(got[i+1:])
			for j := range l {
				l[j] = 99
			}
			_ = append(l, 98)
			if after := fmt.Sprint(got[i+1:]); after != rest {
				t.Fatalf("%s, not %s", after, rest)
			}
		}
		for i := range backs {
			backs[i] = api.Edge{From: 99, To: 99}
		}
		_, _ = Dominates(f, 0, 0), Reducible(f)
		if after := fmt.Sprint(room); after != before {
			t.Fatalf("%s, not %s", after, before)
		}
		if again := fmt.Sprint(results()); again != want || fmt.Sprint(Backs(f)) != written {
			t.Fatalf("%s, not %s", again, want)
		}
	}
}
