package interpret

import (
	"fmt"
	"testing"

	"warmpath/api"
)

// isConserved checks whether counts are conserved, with such stops.
func isConserved(t *testing.T, want bool, p api.Program, c api.Counts, stop ...api.Spot) {
	t.Helper()
	right(t, p)
	if !Fits(p, c) {
		t.Fatalf("%v: %v does not fit", p, c)
	}
	if got := Conserved(p, api.Run{Counts: c, Stop: stop}); got != want {
		t.Errorf("%v: %v, %v are conserved: %t", p, c, stop, got)
	}
}

// diamond is a function whose block 0 branches to 1 and 2, which lead to 3, which leads to 0 or to 4; 4 and 5, to which 2 leads, return.
func diamond() api.Program {
	return program(of(0, 1, block(branch(0, 1, 2)), block(jump(3)), block(branch(0, 3, 5)), block(branch(0, 0, 4)), block(give(0)), block(give(0))))
}

func TestConserved(t *testing.T) {
	p := diamond()
	c := func(entries int, blocks []int, edges ...[2]int) api.Counts {
		return counts(counted(entries, blocks, append(edges, [2]int{}, [2]int{})))
	}
	isConserved(t, true, p, Zero(p))
	isConserved(t, true, p, c(1, []int{1, 1, 0, 1, 1, 0}, [2]int{1, 0}, [2]int{1, 0}, [2]int{}, [2]int{0, 1}))
	isConserved(t, true, p, c(3, []int{5, 2, 3, 4, 2, 1}, [2]int{2, 3}, [2]int{2, 0}, [2]int{2, 1}, [2]int{2, 2}))
	// more returns than entries, or fewer
	isConserved(t, false, p, c(4, []int{5, 2, 3, 4, 2, 1}, [2]int{2, 3}, [2]int{2, 0}, [2]int{2, 1}, [2]int{2, 2}))
	isConserved(t, false, p, c(2, []int{5, 2, 3, 4, 2, 1}, [2]int{2, 3}, [2]int{2, 0}, [2]int{2, 1}, [2]int{2, 2}))
	// runs that ended within it
	isConserved(t, true, p, c(3, []int{5, 2, 3, 4, 2, 1}, [2]int{2, 3}, [2]int{2, 0}, [2]int{2, 1}, [2]int{2, 2}), api.Spot{Block: 4})
	ended := c(4, []int{6, 3, 3, 4, 2, 1}, [2]int{3, 3}, [2]int{2, 0}, [2]int{2, 1}, [2]int{2, 2})
	isConserved(t, true, p, ended, api.Spot{Block: 1})
	isConserved(t, false, p, ended)
	isConserved(t, false, p, ended, api.Spot{Block: 1}, api.Spot{Block: 1})
	for _, b := range []int{0, 2, 3, 4, 5} {
		isConserved(t, false, p, ended, api.Spot{Block: b})
	}
	twice := c(5, []int{7, 3, 4, 4, 2, 1}, [2]int{3, 4}, [2]int{2, 0}, [2]int{2, 1}, [2]int{2, 2})
	isConserved(t, true, p, twice, api.Spot{Block: 2}, api.Spot{Block: 1})
	isConserved(t, true, p, twice, api.Spot{Block: 1}, api.Spot{Block: 2})
	isConserved(t, false, p, twice, api.Spot{Block: 2}, api.Spot{Block: 2})
	// counters, sites, the outcome and the steps do not matter
	r := api.Run{Counts: ended, Stop: []api.Spot{{Block: 1}}, Steps: -5, Counters: []int{7}, Outcome: api.Outcome{Kind: 9}}
	if !Conserved(p, r) {
		t.Errorf("%v is not conserved", r)
	}
}

// TestConservedLoops has edges from blocks to themselves, to the block 0, and two to one block.
func TestConservedLoops(t *testing.T) {
	p := program(of(0, 1, block(branch(0, 0, 1)), block(branch(0, 2, 2)), block(branch(0, 1, 3)), block(give(0))))
	c := func(entries int, blocks []int, edges ...[2]int) api.Counts {
		return counts(counted(entries, blocks, append(edges, [2]int{})))
	}
	isConserved(t, true, p, c(2, []int{7, 5, 5, 2}, [2]int{5, 2}, [2]int{1, 4}, [2]int{3, 2}))
	isConserved(t, true, p, c(2, []int{7, 5, 5, 2}, [2]int{5, 2}, [2]int{5, 0}, [2]int{3, 2}))
	isConserved(t, true, p, c(2, []int{7, 5, 5, 2}, [2]int{5, 2}, [2]int{0, 5}, [2]int{3, 2}))
	isConserved(t, false, p, c(2, []int{7, 5, 5, 2}, [2]int{5, 2}, [2]int{5, 1}, [2]int{3, 2}))
	isConserved(t, false, p, c(2, []int{7, 5, 5, 2}, [2]int{2, 5}, [2]int{1, 4}, [2]int{3, 2}))
	isConserved(t, false, p, c(2, []int{8, 5, 5, 2}, [2]int{5, 2}, [2]int{1, 4}, [2]int{3, 2}))
	isConserved(t, false, p, c(2, []int{7, 6, 5, 2}, [2]int{5, 2}, [2]int{1, 4}, [2]int{3, 2}))
	isConserved(t, false, p, c(2, []int{7, 5, 5, 3}, [2]int{5, 2}, [2]int{1, 4}, [2]int{3, 2}))
	isConserved(t, true, p, c(0, []int{0, 5, 5, 0}, [2]int{0, 0}, [2]int{1, 4}, [2]int{5, 0}))
	isConserved(t, true, p, c(0, []int{9, 0, 0, 0}, [2]int{9, 0}, [2]int{}, [2]int{}))
	isConserved(t, false, p, c(1, []int{9, 0, 0, 0}, [2]int{9, 0}, [2]int{}, [2]int{}))
	isConserved(t, true, p, c(1, []int{10, 0, 0, 0}, [2]int{9, 0}, [2]int{}, [2]int{}), api.Spot{})
	isConserved(t, true, p, c(1, []int{api.MaxCount, 0, 0, 0}, [2]int{api.MaxCount - 1, 0}, [2]int{}, [2]int{}), api.Spot{})
	isConserved(t, false, p, c(api.MaxCount, []int{api.MaxCount, api.MaxCount, 0, 0}, [2]int{api.MaxCount, api.MaxCount}, [2]int{}, [2]int{}))
	// the Else of a jump does not matter
	q := program(of(0, 1, api.Block{Term: api.Term{Kind: api.TermJump, To: 1, Else: 99}}, api.Block{Term: api.Term{Kind: api.TermReturn, To: -7, Else: 99}}))
	isConserved(t, true, q, counts(counted(4, []int{4, 4}, [][2]int{{4, 0}, {}})))
	isConserved(t, false, q, counts(counted(4, []int{4, 3}, [][2]int{{4, 0}, {}})))
	isConserved(t, false, q, counts(counted(4, []int{4, 3}, [][2]int{{3, 0}, {}})))
}

// TestConservedReturns has functions that stand in blocks that return.
func TestConservedReturns(t *testing.T) {
	p := program(of(0, 1, block(give(0), call(0, 1))), of(0, 1, block(branch(0, 1, 2)), block(give(0)), block(give(0), binary(0, 0, api.OpDivide, 0))))
	main, f := counted(1, []int{1}, [][2]int{{}}), counted(3, []int{3, 2, 1}, [][2]int{{2, 1}, {}, {}})
	isConserved(t, true, p, counts(main, f))
	isConserved(t, true, p, counts(main, f), api.Spot{Func: 1, Block: 2}, api.Spot{})
	isConserved(t, true, p, counts(main, f), api.Spot{Func: 1, Block: 1}, api.Spot{})
	isConserved(t, false, p, counts(main, f), api.Spot{Func: 1}, api.Spot{})
	isConserved(t, false, p, counts(main, counted(4, []int{3, 2, 1}, [][2]int{{2, 1}, {}, {}})), api.Spot{Func: 1, Block: 2})
	isConserved(t, false, p, counts(main, counted(3, []int{3, 2, 2}, [][2]int{{2, 1}, {}, {}})), api.Spot{Func: 1, Block: 2})
	isConserved(t, false, p, counts(main, counted(3, []int{3, 3, 0}, [][2]int{{2, 1}, {}, {}})))
	isConserved(t, false, p, counts(counted(2, []int{1}, [][2]int{{}}), f))
	isConserved(t, false, p, counts(counted(1, []int{2}, [][2]int{{}}), f))
	// as the document says it: a spot that is no block is one of its function alone; one of another function counts nowhere
	isConserved(t, false, p, counts(main, f), api.Spot{Func: 1, Block: 3})
	isConserved(t, false, p, counts(main, f), api.Spot{Block: -1})
	isConserved(t, false, p, counts(main, f), api.Spot{Block: greatest})
	isConserved(t, true, p, counts(main, f), api.Spot{Func: 2}, api.Spot{Func: -1, Block: 1}, api.Spot{Func: least, Block: greatest})
}

// flows reports whether counts are conserved, sum by sum as it is written.
func flows(p api.Program, r api.Run) bool {
	for i, f := range p.Funcs {
		c, all, out := r.Counts.Funcs[i], 0, 0
		stands := make([]int, len(f.Blocks))
		for _, s := range r.Stop {
			if s.Func == i {
				all++
				stands[s.Block]++
			}
		}
		for b, at := range f.Blocks {
			in := 0
			if b == 0 {
				in = c.Entries
			}
			for from, other := range f.Blocks {
				if other.Term.Kind != api.TermReturn && other.Term.To == b {
					in += c.Edges[from][0]
				}
				if other.Term.Kind == api.TermBranch && other.Term.Else == b {
					in += c.Edges[from][1]
				}
			}
			switch {
			case in != c.Blocks[b]:
				return false
			case at.Term.Kind == api.TermReturn:
				out += c.Blocks[b] - stands[b]
			case c.Blocks[b] != c.Edges[b][0]+c.Edges[b][1]+stands[b]:
				return false
			}
		}
		if out != c.Entries-all {
			return false
		}
	}
	return true
}

// change changes a number of counts, or a stop.
func (m *maker) change(p api.Program, r *api.Run) {
	number := m.Intn(len(p.Funcs))
	c, f := &r.Counts.Funcs[number], p.Funcs[number]
	b, by := m.Intn(len(f.Blocks)), m.Intn(3)-1
	spot := api.Spot{Func: number, Block: b}
	switch m.Intn(7) {
	case 0:
		c.Entries = max(0, c.Entries+by)
	case 1, 2:
		c.Blocks[b] = max(0, c.Blocks[b]+by)
	case 3:
		if f.Blocks[b].Term.Kind != api.TermReturn {
			c.Edges[b][0] = max(0, c.Edges[b][0]+by)
		}
	case 4:
		if f.Blocks[b].Term.Kind == api.TermBranch {
			c.Edges[b][1] = max(0, c.Edges[b][1]+by)
		}
	case 5:
		r.Stop = append(r.Stop, spot)
	case 6:
		if len(r.Stop) > 0 {
			r.Stop[m.Intn(len(r.Stop))] = spot
			r.Stop = r.Stop[m.Intn(2):]
		}
	}
}

// TestConservedChanges changes the counts of runs.
func TestConservedChanges(t *testing.T) {
	m := newMaker(9)
	seen := noted{}
	for range 2000 {
		p := m.program()
		r := Run(p, m.input(), api.Limit{Steps: m.Intn(200), Depth: 1 + m.Intn(5)})
		if !Conserved(p, r) || !flows(p, r) {
			t.Fatalf("%v: %v is not conserved", p, r)
		}
		for i := range 6 {
			before := fmt.Sprint(r)
			m.change(p, &r)
			want := flows(p, r)
			if got := Conserved(p, r); got != want || !Fits(p, r.Counts) {
				t.Fatalf("%v: %v is conserved: %t; fits: %t", p, r, got, Fits(p, r.Counts))
			}
			if changed := fmt.Sprint(r) != before; changed {
				seen.note(want, min(i, 1))
			}
		}
	}
	seen.often(t, 100, "true 0", "false 0", "true 1", "false 1")
}

// TestEachChangeCounts changes each number of a run by 1.
func TestEachChangeCounts(t *testing.T) {
	m := newMaker(10)
	for range 300 {
		p := m.program()
		r := Run(p, m.input(), api.Limit{Steps: m.Intn(200), Depth: 1 + m.Intn(5)})
		for i := range r.Counts.Funcs {
			c := &r.Counts.Funcs[i]
			numbers := []*int{&c.Entries}
			for b := range c.Blocks {
				numbers = append(numbers, &c.Blocks[b])
				if kind := p.Funcs[i].Blocks[b].Term.Kind; kind != api.TermReturn {
					numbers = append(numbers, &c.Edges[b][0])
					if kind == api.TermBranch {
						numbers = append(numbers, &c.Edges[b][1])
					}
				}
			}
			for _, n := range numbers {
				*n++
				if Conserved(p, r) {
					t.Fatalf("%v: %v is conserved", p, r)
				}
				*n--
			}
		}
		if !Conserved(p, r) {
			t.Fatalf("%v: %v is not conserved", p, r)
		}
	}
}
