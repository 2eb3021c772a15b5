package interpret

import (
	"cmp"
	"maps"
	"slices"

	"warmpath/api"
)

// valueCall is a call of a function value: the place where it is, and the function that it enters.
type valueCall struct {
	api.Point
	target int
}

func compareCalls(a, b valueCall) int {
	return cmp.Or(cmp.Compare(a.Func, b.Func), cmp.Compare(a.Block, b.Block), cmp.Compare(a.Instr, b.Instr), cmp.Compare(a.target, b.target))
}

// putSites gives functions without Sites those that say how often which call was made.
func putSites(c api.Counts, made map[valueCall]int) {
	calls := slices.SortedFunc(maps.Keys(made), compareCalls)
	for i, call := range calls {
		f := &c.Funcs[call.Func]
		if i == 0 || calls[i-1].Point != call.Point {
			f.Sites = append(f.Sites, api.Site{Block: call.Block, Instr: call.Instr})
		}
		site := &f.Sites[len(f.Sites)-1]
		site.Targets = append(site.Targets, api.Target{Func: call.target, Count: made[call]})
	}
}

// fitSites reports whether a function of a program can have sites.
func fitSites(p api.Program, f api.Function, sites []api.Site) bool {
	for i, s := range sites {
		if i > 0 && compareSites(sites[i-1], s) >= 0 || !fitSite(p, f, s) {
			return false
		}
	}
	return true
}

func compareSites(a, b api.Site) int {
	return cmp.Or(cmp.Compare(a.Block, b.Block), cmp.Compare(a.Instr, b.Instr))
}

func fitSite(p api.Program, f api.Function, s api.Site) bool {
	if s.Block < 0 || s.Block >= len(f.Blocks) || len(s.Targets) == 0 {
		return false
	}
	instrs := f.Blocks[s.Block].Instrs
	if s.Instr < 0 || s.Instr >= len(instrs) || instrs[s.Instr].Kind != api.InstrCallValue {
		return false
	}
	for i, t := range s.Targets {
		if i > 0 && s.Targets[i-1].Func >= t.Func || !callable(p, t.Func, len(instrs[s.Instr].Args)) || t.Count == 0 || !isCount(t.Count) {
			return false
		}
	}
	return true
}
