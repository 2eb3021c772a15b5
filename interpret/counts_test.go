package interpret

import (
	"fmt"
	"reflect"
	"slices"
	"testing"

	"warmpath/api"
)

// sited is a program with each kind of end, and with calls of function values: in the function 0 one without arguments (0, 1), one with an argument (1, 0), and others with two (1, 2) and (3, 0); in the function 1 one without arguments (0, 0).
func sited() api.Program {
	p := program(
		of(0, 2, block(jump(1), call(0, 1), callOf(0, 1)), block(branch(0, 2, 3), callOf(0, 1, 0), function(0, 2), callOf(0, 1, 0, 0)), block(give(0)), block(branch(1, 2, 2), callOf(0, 1, 1, 1))),
		of(0, 1, block(give(0), callOf(0, 0))),
		of(1, 1, block(give(0))),
		of(2, 2, block(give(0))),
		of(1, 1, block(give(0))),
		of(0, 1, block(give(0))),
		of(1, 1, block(give(0))),
	)
	p.Callable = 5
	return p
}

// ofSited are counts that fit this program, in memory of their own.
func ofSited() api.Counts {
	return counts(
		counted(7, []int{1, 2, 3, 4}, [][2]int{{5, 0}, {6, 7}, {0, 0}, {8, 9}}, site(0, 1, 0, 1, 1, 2), site(1, 0, 2, 3, 4, 4), site(1, 2, 3, 5), site(3, 0, 3, 1)),
		counted(0, []int{9}, [][2]int{{}}, site(0, 0, 1, 8)),
		counted(1, []int{1}, [][2]int{{}}), counted(0, []int{0}, [][2]int{{}}), counted(5, []int{6}, [][2]int{{}}), counted(0, []int{2}, [][2]int{{}}), counted(3, []int{0}, [][2]int{{}}),
	)
}

// fits checks whether counts fit this program when they were changed.
func fits(t *testing.T, want bool, what any, change func(c *api.Counts)) {
	t.Helper()
	c := ofSited()
	change(&c)
	if got := Fits(sited(), c); got != want {
		t.Errorf("%v: %v fits: %t", what, c, got)
	}
}

func TestZero(t *testing.T) {
	if got, want := fmt.Sprint(Zero(sited())), "{[{0 [0 0 0 0] [[0 0] [0 0] [0 0] [0 0]] []} {0 [0] [[0 0]] []} {0 [0] [[0 0]] []} {0 [0] [[0 0]] []} {0 [0] [[0 0]] []} {0 [0] [[0 0]] []} {0 [0] [[0 0]] []}]}"; got != want {
		t.Errorf("%s, not %s", got, want)
	}
	m := newMaker(5)
	for range 300 {
		p := m.program()
		c := Zero(p)
		if !Fits(p, c) || !Conserved(p, api.Run{Counts: c}) || len(c.Funcs) != len(p.Funcs) || !Same(c, Run(p, nil, api.Limit{}).Counts) {
			t.Fatalf("%v: %v", p, c)
		}
		for i, f := range c.Funcs {
			if len(f.Blocks) != len(p.Funcs[i].Blocks) || len(f.Edges) != len(f.Blocks) || len(f.Sites) != 0 {
				t.Fatalf("%v: %v", p, c)
			}
		}
		if len(c.Funcs) > 1 {
			c.Funcs[0].Blocks[0], c.Funcs[1].Edges[0], c.Funcs[1].Entries = 5, [2]int{6, 7}, 8
		}
		if again := Zero(p); fmt.Sprint(again) != fmt.Sprint(Run(p, nil, api.Limit{}).Counts) {
			t.Fatalf("%v: %v, after %v", p, again, c)
		}
	}
}

// TestFitsNumbers has numbers at their bounds and beyond in all places.
func TestFitsNumbers(t *testing.T) {
	right(t, sited())
	fits(t, true, "unchanged", func(*api.Counts) {})
	for n, is := range map[int]bool{0: true, 1: true, api.MaxCount - 1: true, api.MaxCount: true, api.MaxCount + 1: false, greatest: false, -1: false, -api.MaxCount: false, least: false} {
		for f := range 7 {
			fits(t, is, n, func(c *api.Counts) { c.Funcs[f].Entries = n })
			for b := range len(sited().Funcs[f].Blocks) {
				fits(t, is, n, func(c *api.Counts) { c.Funcs[f].Blocks[b] = n })
				kind := sited().Funcs[f].Blocks[b].Term.Kind
				fits(t, is && (n == 0 || kind != api.TermReturn), n, func(c *api.Counts) { c.Funcs[f].Edges[b][0] = n })
				fits(t, is && (n == 0 || kind == api.TermBranch), n, func(c *api.Counts) { c.Funcs[f].Edges[b][1] = n })
			}
		}
		for s, site := range ofSited().Funcs[0].Sites {
			for target := range site.Targets {
				fits(t, is && n > 0, n, func(c *api.Counts) { c.Funcs[0].Sites[s].Targets[target].Count = n })
			}
		}
		fits(t, is && n > 0, n, func(c *api.Counts) { c.Funcs[1].Sites[0].Targets[0].Count = n })
	}
}

// TestFitsLists has lists that are too short and too long.
func TestFitsLists(t *testing.T) {
	for f := range 7 {
		fits(t, false, f, func(c *api.Counts) { c.Funcs = slices.Delete(c.Funcs, f, f+1) })
		fits(t, false, f, func(c *api.Counts) { c.Funcs[f].Blocks = nil })
		fits(t, false, f, func(c *api.Counts) { c.Funcs[f].Edges = nil })
		fits(t, false, f, func(c *api.Counts) { c.Funcs[f].Blocks = c.Funcs[f].Blocks[1:] })
		fits(t, false, f, func(c *api.Counts) { c.Funcs[f].Edges = c.Funcs[f].Edges[1:] })
		fits(t, false, f, func(c *api.Counts) { c.Funcs[f].Blocks = append(c.Funcs[f].Blocks, 0) })
		fits(t, false, f, func(c *api.Counts) { c.Funcs[f].Edges = append(c.Funcs[f].Edges, [2]int{}) })
		fits(t, true, f, func(c *api.Counts) { c.Funcs[f].Sites = nil })
	}
	fits(t, false, "no functions", func(c *api.Counts) { c.Funcs = nil })
	fits(t, false, "another function", func(c *api.Counts) { c.Funcs = append(c.Funcs, counted(0, []int{0}, [][2]int{{}})) })
	fits(t, false, "nothing of another function", func(c *api.Counts) { c.Funcs = append(c.Funcs, api.FuncCounts{}) })
}

// TestFitsSites has sites that fit, and such that do not.
func TestFitsSites(t *testing.T) {
	for _, x := range []struct {
		fits  bool
		sites []api.Site
	}{
		{true, nil},
		{true, []api.Site{site(0, 1, 0, 1)}},
		{true, []api.Site{site(0, 1, 0, 1), site(1, 0, 4, 1)}},
		{true, []api.Site{site(0, 1, 0, 1), site(1, 2, 3, 1)}},
		{true, []api.Site{site(1, 0, 2, 1), site(1, 2, 3, 1), site(3, 0, 3, 1)}},
		// the order of sites
		{false, []api.Site{site(1, 0, 2, 1), site(0, 1, 0, 1)}},
		{false, []api.Site{site(1, 2, 3, 1), site(1, 0, 2, 1)}},
		{false, []api.Site{site(3, 0, 3, 1), site(1, 2, 3, 1)}},
		{false, []api.Site{site(0, 1, 0, 1), site(3, 0, 3, 1), site(1, 0, 2, 1)}},
		{false, []api.Site{site(0, 1, 0, 1), site(0, 1, 0, 1)}},
		{false, []api.Site{site(0, 1, 0, 1), site(0, 1, 1, 1)}},
		// the places of sites
		{false, []api.Site{site(0, 0, 1, 1)}}, {false, []api.Site{site(1, 1, 2, 1)}}, {false, []api.Site{site(1, 3, 2, 1)}}, {false, []api.Site{site(2, 0, 2, 1)}}, {false, []api.Site{site(0, 2, 0, 1)}},
		{false, []api.Site{site(0, -1, 0, 1)}}, {false, []api.Site{site(0, least, 0, 1)}}, {false, []api.Site{site(0, greatest, 0, 1)}},
		{false, []api.Site{site(-1, 0, 3, 1)}}, {false, []api.Site{site(4, 0, 3, 1)}}, {false, []api.Site{site(least, 0, 3, 1)}}, {false, []api.Site{site(greatest, 0, 3, 1)}},
		// targets
		{true, []api.Site{site(0, 1, 0, 1, 1, 1)}}, {true, []api.Site{site(0, 1, 1, api.MaxCount)}}, {true, []api.Site{site(1, 0, 4, 1)}},
		{false, []api.Site{site(0, 1)}}, {false, []api.Site{site(0, 1, 0, 1), site(1, 0), site(3, 0, 3, 1)}},
		{false, []api.Site{site(0, 1, 1, 1, 0, 1)}}, {false, []api.Site{site(0, 1, 1, 1, 1, 1)}}, {false, []api.Site{site(1, 0, 4, 1, 2, 1)}},
		{false, []api.Site{site(0, 1, 5, 1)}}, {false, []api.Site{site(1, 0, 6, 1)}}, {false, []api.Site{site(1, 0, 2, 1, 6, 1)}}, {false, []api.Site{site(0, 1, 7, 1)}}, {false, []api.Site{site(0, 1, -1, 1)}}, {false, []api.Site{site(0, 1, least, 1)}}, {false, []api.Site{site(0, 1, greatest, 1)}},
		{false, []api.Site{site(0, 1, 2, 1)}}, {false, []api.Site{site(0, 1, 3, 1)}}, {false, []api.Site{site(1, 0, 0, 1)}}, {false, []api.Site{site(1, 0, 3, 1)}}, {false, []api.Site{site(1, 2, 2, 1)}}, {false, []api.Site{site(3, 0, 0, 1)}},
		{false, []api.Site{site(0, 1, 0, 0)}}, {false, []api.Site{site(0, 1, 0, 1, 1, 0)}}, {false, []api.Site{site(0, 1, 0, 0, 1, 1)}},
	} {
		fits(t, x.fits, x.sites, func(c *api.Counts) { c.Funcs[0].Sites = x.sites })
	}
	// what fits one function does not fit another one
	fits(t, false, "(0, 1) in the function 1", func(c *api.Counts) { c.Funcs[1].Sites = []api.Site{site(0, 1, 0, 1)} })
	fits(t, false, "(0, 0) in the function 2", func(c *api.Counts) { c.Funcs[2].Sites = []api.Site{site(0, 0, 1, 1)} })
	fits(t, true, "(0, 0) in the function 1", func(c *api.Counts) { c.Funcs[1].Sites = []api.Site{site(0, 0, 0, 1, 1, 1)} })
	// each function is below Callable, or none
	for callable, want := range []bool{false, false, false, false, false, true, true, true} {
		p := sited()
		p.Callable = callable
		if got := Fits(p, ofSited()); got != want {
			t.Errorf("%d callable functions: %t", callable, got)
		}
	}
}

// fieldsOf are all numbers and lists of a value, the outer ones first.
func fieldsOf(v reflect.Value, l []reflect.Value) []reflect.Value {
	switch v.Kind() {
	case reflect.Struct:
		for i := range v.NumField() {
			l = fieldsOf(v.Field(i), l)
		}
	case reflect.Slice:
		l = append(l, v)
		fallthrough
	case reflect.Array:
		for i := range v.Len() {
			l = fieldsOf(v.Index(i), l)
		}
	default:
		l = append(l, v)
	}
	return l
}

// eachChange calls visit with counts in memory of their own, in which a field was changed: for each field, and in each way.
func eachChange(of func() api.Counts, visit func(c api.Counts)) (made int) {
	for _, change := range []func(v reflect.Value) bool{
		func(v reflect.Value) bool {
			if v.Kind() == reflect.Int {
				v.SetInt(v.Int() + 1)
			}
			return v.Kind() == reflect.Int
		},
		func(v reflect.Value) bool {
			if v.Kind() == reflect.Int {
				v.SetInt(v.Int() ^ least)
			}
			return v.Kind() == reflect.Int
		},
		func(v reflect.Value) bool {
			if v.Kind() == reflect.Slice {
				v.Set(reflect.Append(v, reflect.Zero(v.Type().Elem())))
			}
			return v.Kind() == reflect.Slice
		},
		func(v reflect.Value) bool {
			full := v.Kind() == reflect.Slice && v.Len() > 0
			if full {
				v.Set(v.Slice(0, v.Len()-1))
			}
			return full
		},
	} {
		for at := 0; ; at++ {
			c := of()
			l := fieldsOf(reflect.ValueOf(&c).Elem(), nil)
			if at == len(l) {
				break
			}
			if change(l[at]) {
				made++
				visit(c)
			}
		}
	}
	return made
}

func TestSame(t *testing.T) {
	if !Same(ofSited(), ofSited()) || !Same(api.Counts{}, api.Counts{}) || Same(ofSited(), api.Counts{}) || Same(api.Counts{}, ofSited()) {
		t.Error("what is the same is not")
	}
	if made := eachChange(ofSited, func(c api.Counts) {
		if Same(c, ofSited()) || Same(ofSited(), c) || !Same(c, c) {
			t.Errorf("%v is the same as %v, or not as itself", c, ofSited())
		}
	}); made < 100 {
		t.Errorf("only %d changes", made)
	}
	m := newMaker(6)
	for range 500 {
		p, l := m.program(), api.Limit{Steps: m.Intn(100), Depth: 5}
		a, b := Run(p, m.input(), l).Counts, Run(p, m.input(), l).Counts
		if want := fmt.Sprint(a) == fmt.Sprint(b); Same(a, b) != want || Same(b, a) != want || !Same(a, a) {
			t.Fatalf("%v and %v", a, b)
		}
	}
}

// TestFitsOfChanges compares what fits with what is written of it, in counts of runs with two changes.
func TestFitsOfChanges(t *testing.T) {
	m := newMaker(7)
	seen := noted{}
	for range 4000 {
		p := m.program()
		c := Run(p, m.input(), api.Limit{Steps: 100, Depth: 5}).Counts
		for range 2 {
			l := fieldsOf(reflect.ValueOf(&c).Elem(), nil)
			v := l[m.Intn(len(l))]
			switch {
			case v.Kind() == reflect.Int && m.Intn(3) > 0:
				v.SetInt(v.Int() + int64(m.Intn(3)-1))
			case v.Kind() == reflect.Int:
				v.SetInt(int64([]int{0, 1, -1, api.MaxCount, api.MaxCount + 1, m.any()}[m.Intn(6)]))
			case v.Len() > 0 && m.Intn(4) == 0:
				v.Set(v.Slice(0, v.Len()-1))
			case m.Intn(4) == 0:
				v.Set(reflect.Append(v, reflect.Zero(v.Type().Elem())))
			}
		}
		want := misfit(p, c)
		if got := Fits(p, c); got != (want == "") {
			t.Fatalf("%v\n%v fits: %t (%s)", p, c, got, want)
		}
		seen.note(want)
	}
	seen.often(t, 10, "", "functions", "lists", "number", "edge of a jump", "edge of a return", "place", "target", "order of targets")
}

// misfit is the first of what the document asks for that counts do not have.
func misfit(p api.Program, c api.Counts) string {
	if len(c.Funcs) != len(p.Funcs) {
		return "functions"
	}
	for i, f := range c.Funcs {
		blocks := p.Funcs[i].Blocks
		if len(f.Blocks) != len(blocks) || len(f.Edges) != len(blocks) {
			return "lists"
		}
		numbers := append([]int{f.Entries}, f.Blocks...)
		for b, edges := range f.Edges {
			numbers = append(numbers, edges[0], edges[1])
			if edges[1] != 0 && blocks[b].Term.Kind == api.TermJump {
				return "edge of a jump"
			}
			if edges != [2]int{} && blocks[b].Term.Kind == api.TermReturn {
				return "edge of a return"
			}
		}
		before := []int{-1, -1}
		for _, s := range f.Sites {
			place := []int{s.Block, s.Instr}
			if slices.Compare(before, place) >= 0 || len(s.Targets) == 0 || s.Block < 0 || s.Instr < 0 || s.Block >= len(blocks) || s.Instr >= len(blocks[s.Block].Instrs) || blocks[s.Block].Instrs[s.Instr].Kind != api.InstrCallValue {
				return "place"
			}
			before = place
			last := -1
			for _, target := range s.Targets {
				if target.Func < 0 || target.Func >= p.Callable || p.Funcs[target.Func].Params != len(blocks[s.Block].Instrs[s.Instr].Args) {
					return "target"
				}
				if target.Func <= last {
					return "order of targets"
				}
				last = target.Func
				numbers = append(numbers, target.Count)
				if target.Count == 0 {
					return "target"
				}
			}
		}
		if slices.Min(numbers) < 0 || slices.Max(numbers) > api.MaxCount {
			return "number"
		}
	}
	return ""
}
