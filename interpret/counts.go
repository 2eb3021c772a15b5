package interpret

import (
	"slices"

	"warmpath/api"
)

// Zero returns the counts of a program that has not run.
func Zero(p api.Program) api.Counts {
	c := api.Counts{Funcs: make([]api.FuncCounts, len(p.Funcs))}
	for i, f := range p.Funcs {
		c.Funcs[i] = api.FuncCounts{Blocks: make([]int, len(f.Blocks)), Edges: make([][2]int, len(f.Blocks))}
	}
	return c
}

// Fits reports whether counts fit a program.
func Fits(p api.Program, c api.Counts) bool {
	if len(c.Funcs) != len(p.Funcs) {
		return false
	}
	for i, f := range p.Funcs {
		if !fitFunction(f, c.Funcs[i]) || !fitSites(p, f, c.Funcs[i].Sites) {
			return false
		}
	}
	return true
}

// fitFunction reports whether a function can have counts, but for the sites.
func fitFunction(f api.Function, c api.FuncCounts) bool {
	if !isCount(c.Entries) || len(c.Blocks) != len(f.Blocks) || len(c.Edges) != len(f.Blocks) {
		return false
	}
	for i, b := range f.Blocks {
		edges := c.Edges[i]
		switch {
		case !isCount(c.Blocks[i]) || !isCount(edges[0]) || !isCount(edges[1]):
			return false
		case b.Term.Kind != api.TermBranch && edges[1] != 0, b.Term.Kind == api.TermReturn && edges[0] != 0:
			return false
		}
	}
	return true
}

func isCount(n int) bool { return n >= 0 && n <= api.MaxCount }

// adder adds counts, and notes whether a sum was too great.
type adder struct{ beyond bool }

func (x *adder) add(a, b int) int {
	x.beyond = x.beyond || a+b > api.MaxCount
	return a + b
}

// Add adds counts.
func Add(a, b api.Counts) (api.Counts, api.Errno) {
	if !slices.EqualFunc(a.Funcs, b.Funcs, sameShape) {
		return api.Counts{}, api.ErrCounts
	}
	sum, x := api.Counts{Funcs: make([]api.FuncCounts, len(a.Funcs))}, &adder{}
	made := map[valueCall]int{}
	for i, f := range a.Funcs {
		sum.Funcs[i] = x.functions(f, b.Funcs[i])
		x.sites(made, i, f.Sites)
		x.sites(made, i, b.Funcs[i].Sites)
	}
	if x.beyond {
		return api.Counts{}, api.ErrCounts
	}
	putSites(sum, made)
	return sum, api.OK
}

func sameShape(a, b api.FuncCounts) bool {
	return len(a.Blocks) == len(b.Blocks) && len(a.Edges) == len(b.Edges)
}

// functions adds counts of a function, but for the sites.
func (x *adder) functions(a, b api.FuncCounts) api.FuncCounts {
	sum := api.FuncCounts{Entries: x.add(a.Entries, b.Entries), Blocks: slices.Clone(a.Blocks), Edges: slices.Clone(a.Edges)}
	for i, n := range b.Blocks {
		sum.Blocks[i] = x.add(sum.Blocks[i], n)
	}
	for i, edges := range b.Edges {
		for way, n := range edges {
			sum.Edges[i][way] = x.add(sum.Edges[i][way], n)
		}
	}
	return sum
}

// sites adds the sites of a function to the calls that were made.
func (x *adder) sites(made map[valueCall]int, number int, l []api.Site) {
	for _, s := range l {
		for _, t := range s.Targets {
			call := valueCall{api.Point{Func: number, Block: s.Block, Instr: s.Instr}, t.Func}
			made[call] = x.add(made[call], t.Count)
		}
	}
}

// Conserved reports whether the counts of a run are conserved.
func Conserved(p api.Program, r api.Run) bool {
	blocks, functions := map[api.Spot]int{}, map[int]int{}
	for _, s := range r.Stop {
		blocks[s]++
		functions[s.Func]++
	}
	for i, f := range p.Funcs {
		stood := make([]int, len(f.Blocks))
		for b := range stood {
			stood[b] = blocks[api.Spot{Func: i, Block: b}]
		}
		if !conserved(f, r.Counts.Funcs[i], stood, functions[i]) {
			return false
		}
	}
	return true
}

// conserved reports whether the counts of a function are conserved, if it stood so often in each of its blocks, and so often in all.
func conserved(f api.Function, c api.FuncCounts, stood []int, all int) bool {
	begun, returned := make([]int, len(f.Blocks)), 0
	begun[0] = c.Entries
	for i, b := range f.Blocks {
		edges := c.Edges[i]
		if b.Term.Kind == api.TermReturn {
			returned += c.Blocks[i] - stood[i]
			continue
		}
		begun[b.Term.To] += edges[0]
		if b.Term.Kind == api.TermBranch {
			begun[b.Term.Else] += edges[1]
		}
		if c.Blocks[i] != edges[0]+edges[1]+stood[i] {
			return false
		}
	}
	return returned == c.Entries-all && slices.Equal(begun, c.Blocks)
}

// Same reports whether counts are equal.
func Same(a, b api.Counts) bool { return slices.EqualFunc(a.Funcs, b.Funcs, sameFunction) }

func sameFunction(a, b api.FuncCounts) bool {
	return a.Entries == b.Entries && slices.Equal(a.Blocks, b.Blocks) && slices.Equal(a.Edges, b.Edges) && slices.EqualFunc(a.Sites, b.Sites, sameSite)
}

func sameSite(a, b api.Site) bool {
	return a.Block == b.Block && a.Instr == b.Instr && slices.Equal(a.Targets, b.Targets)
}
