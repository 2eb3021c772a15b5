package interpret

import (
	"fmt"
	"reflect"
	"slices"
	"testing"

	"warmpath/api"
	"warmpath/evaluate"
	"warmpath/flow"
)

// noted are things that random tests have to have seen often.
type noted map[string]int

func (n noted) note(what ...any) { n[fmt.Sprint(what...)]++ }

func (n noted) often(t *testing.T, times int, l ...string) {
	t.Helper()
	for _, what := range l {
		if n[what] < times {
			t.Errorf("%s: only %d times", what, n[what])
		}
	}
}

// look notes what a run is like.
func (n noted) look(r api.Run) {
	n.note("kind ", r.Outcome.Kind, ", trap ", r.Outcome.Trap)
	for _, f := range r.Counts.Funcs {
		for _, s := range f.Sites {
			n.note("targets ", min(len(s.Targets), 2))
		}
	}
	if len(r.Stop) > 2 {
		n.note("deep")
	}
	if r.Steps > 100 {
		n.note("long")
	}
	if r.Outcome.Kind == api.Returned && slices.ContainsFunc(r.Counts.Funcs, func(f api.FuncCounts) bool { return f.Entries > 1 }) {
		n.note("returned after calls")
	}
}

// TestRandomRuns compares runs with what is told of them.
func TestRandomRuns(t *testing.T) {
	m := newMaker(1)
	seen := noted{}
	for range 6000 {
		p, input := right(t, m.program()), m.input()
		const most = 1500
		events, last := told(p, input, most)
		limits := []api.Limit{{Steps: most, Depth: greatest}, {Steps: most, Depth: m.Intn(6)}, {Steps: m.Intn(60), Depth: m.Intn(6) - 1}, {Steps: m.Intn(20) - 2, Depth: 400}}
		if last.Kind != api.Exhausted {
			limits = append(limits, api.Limit{Steps: greatest, Depth: api.MaxDepth})
		}
		for _, l := range limits {
			want, got := limited(p, events, last, l), Run(p, input, l)
			if fmt.Sprint(got) != fmt.Sprint(want) {
				t.Fatalf("%v\n%v, %v: %v, not\n%v", p, input, l, got, want)
			}
			if !Fits(p, got.Counts) || !Conserved(p, got) {
				t.Fatalf("%v\n%v, %v: the counts %v fit: %t, are conserved: %t", p, input, l, got, Fits(p, got.Counts), Conserved(p, got))
			}
			seen.look(got)
		}
	}
	seen.often(t, 200, "kind 1, trap 0", "kind 2, trap 1", "kind 2, trap 2", "kind 2, trap 3", "kind 3, trap 0", "targets 1", "deep", "long", "returned after calls")
	seen.often(t, 25, "targets 2")
}

// TestGreaterLimits compares runs of one program with each other.
func TestGreaterLimits(t *testing.T) {
	m := newMaker(2)
	for range 3000 {
		p, input := m.program(), m.input()
		less := api.Limit{Steps: m.Intn(300), Depth: m.Intn(6)}
		more := api.Limit{Steps: less.Steps + m.Intn(300), Depth: less.Depth + m.Intn(6)}
		a, b := Run(p, input, less), Run(p, input, more)
		if !evaluate.Refines(a.Outcome, b.Outcome) || len(a.Outcome.Output) > len(b.Outcome.Output) || a.Steps > b.Steps || a.Outcome.Kind != api.Exhausted && fmt.Sprint(a) != fmt.Sprint(b) {
			t.Fatalf("%v\n%v: %v, but %v: %v", p, less, a, more, b)
		}
		for i, f := range a.Counts.Funcs {
			for j := range f.Blocks {
				if g := b.Counts.Funcs[i]; f.Entries > g.Entries || f.Blocks[j] > g.Blocks[j] || f.Edges[j][0] > g.Edges[j][0] || f.Edges[j][1] > g.Edges[j][1] {
					t.Fatalf("%v\n%v: %v, but %v: %v", p, less, a, more, b)
				}
			}
		}
	}
}

// span is the memory of a slice, with its room.
type span struct{ from, to uintptr }

// spans collects the memory of all slices of a value.
func spans(v reflect.Value, l []span) []span {
	switch v.Kind() {
	case reflect.Struct:
		for i := range v.NumField() {
			l = spans(v.Field(i), l)
		}
	case reflect.Slice:
		if v.Cap() > 0 {
			l = append(l, span{v.Pointer(), v.Pointer() + uintptr(v.Cap())*v.Type().Elem().Size()})
		}
		for i := range v.Len() {
			l = spans(v.Index(i), l)
		}
	}
	return l
}

// isApart checks that no slices of some values share memory.
func isApart(t *testing.T, values ...any) {
	t.Helper()
	var l []span
	for _, v := range values {
		l = spans(reflect.ValueOf(v), l)
	}
	slices.SortFunc(l, func(a, b span) int { return int(a.from) - int(b.from) })
	for i := 1; i < len(l); i++ {
		if l[i-1].to > l[i].from {
			t.Fatalf("slices of %v share memory", values)
		}
	}
}

func TestNoSharedMemory(t *testing.T) {
	m := newMaker(3)
	for range 1000 {
		p, input := m.program(), append(make([]int, 0, 20), m.input()...)
		before := fmt.Sprint(p, input, input[:cap(input)])
		a, b, zero := Run(p, input, api.Limit{Steps: 300, Depth: 5}), Run(p, input, api.Limit{Steps: 500, Depth: 50}), Zero(p)
		written := fmt.Sprint(a, b, zero)
		sum, e := Add(a.Counts, b.Counts)
		if e != api.OK {
			t.Fatalf("error %d of %v and %v", e, a, b)
		}
		isApart(t, p, input, a, b, zero, sum)
		Fits(p, a.Counts)
		Conserved(p, b)
		Same(a.Counts, b.Counts)
		if after := fmt.Sprint(p, input, input[:cap(input)]); after != before {
			t.Fatalf("%s, not %s", after, before)
		}
		if after := fmt.Sprint(a, b, zero); after != written {
			t.Fatalf("%s, not %s", after, written)
		}
	}
}

// TestRepeated runs each program twice, with another one in between.
func TestRepeated(t *testing.T) {
	m := newMaker(4)
	for range 500 {
		p, q, input := m.program(), m.program(), m.input()
		l := api.Limit{Steps: 400, Depth: 20}
		first, second := Run(p, input, l), Run(q, input, l)
		if again, other := Run(p, input, l), Run(q, input, l); fmt.Sprint(first, second) != fmt.Sprint(again, other) {
			t.Fatalf("%v and %v, then %v and %v", first, second, again, other)
		}
	}
}

// TestRoomOfSlices lays what belongs to somebody else behind the slices of a program, of counts and of a run.
func TestRoomOfSlices(t *testing.T) {
	args := []int{0, 9, 9}
	instrs := []api.Instr{callOf(0, 0, args[:1]...), {Kind: 99}}
	blocks := []api.Block{block(give(0), constant(0, 1), callOf(0, 0, args[:1]...)), block(jump(9), instrs...), {}}
	funcs := []api.Function{{Regs: 1, Blocks: blocks[:1]}, {Params: 1, Regs: 1, Blocks: []api.Block{block(give(0), printed(0))}}, {Name: "mine"}}
	globals := []api.Global{{}, {Size: -1}}
	input := []int{5, 9}
	p := right(t, api.Program{Globals: globals[:1], Funcs: funcs[:2], Callable: 2})
	before := fmt.Sprint(args, instrs, blocks, funcs, globals, input)
	r := Run(p, input[:1], ample)
	if fmt.Sprint(r) != "{{1 1 0 [1]} {[{1 [1] [[0 0]] [{0 1 [{1 1}]}]} {1 [1] [[0 0]] []}]} 7 [] []}" || len(Zero(p).Funcs) != 2 || !Fits(p, r.Counts) || !Conserved(p, r) {
		t.Errorf("%v", r)
	}
	targets := []api.Target{{Func: 1, Count: 1}, {Func: 9, Count: 9}}
	sites := []api.Site{{Instr: 1, Targets: targets[:1]}, {Block: -9}}
	ones, edges := []int{1, -9}, [][2]int{{}, {9, 9}}
	lists := []api.FuncCounts{counted(1, ones[:1], edges[:1], sites[:1]...), counted(1, ones[:1], edges[:1]), {}}
	stop := []api.Spot{{Func: 9}, {}}
	laid := fmt.Sprint(targets, sites, ones, edges, lists, stop)
	lists[0].Sites = sites[:1]
	c := api.Counts{Funcs: lists[:2]}
	sum, e := Add(c, c)
	if !Fits(p, c) || !Same(c, r.Counts) || !Conserved(p, api.Run{Counts: c, Stop: stop[:1]}) || e != api.OK || fmt.Sprint(sum) != "{[{2 [2] [[0 0]] [{0 1 [{1 2}]}]} {2 [2] [[0 0]] []}]}" {
		t.Errorf("%v, %v, error %d", c, sum, e)
	}
	if after := fmt.Sprint(args, instrs, blocks, funcs, globals, input); after != before {
		t.Errorf("%s, not %s", after, before)
	}
	if after := fmt.Sprint(targets, sites, ones, edges, lists, stop); after != laid {
		t.Errorf("%s, not %s", after, laid)
	}
}

// TestNoLists compares nil with empty lists.
func TestNoLists(t *testing.T) {
	p := program(of(0, 1, block(give(0))), of(0, 1, block(give(0), call(0, 0))))
	q := api.Program{Globals: []api.Global{}, Funcs: []api.Function{of(0, 1, api.Block{Instrs: []api.Instr{}, Term: give(0)}), of(0, 1, block(give(0), api.Instr{Kind: api.InstrCall, Args: []int{}}))}, Callable: 2}
	a, b := Run(p, nil, ample), Run(q, []int{}, ample)
	if !flow.Same(p, q) || fmt.Sprint(a) != fmt.Sprint(b) || fmt.Sprint(Zero(p)) != fmt.Sprint(Zero(q)) {
		t.Errorf("%v and %v", a, b)
	}
	c := counts(api.FuncCounts{Entries: 1, Blocks: []int{1}, Edges: [][2]int{{}}, Sites: []api.Site{}}, api.FuncCounts{Blocks: []int{0}, Edges: [][2]int{{}}})
	if !Same(c, a.Counts) || !Same(a.Counts, c) || !Fits(p, c) || !Fits(q, c) || !Conserved(p, api.Run{Counts: c, Stop: []api.Spot{}}) {
		t.Errorf("%v and %v", a.Counts, c)
	}
	if !Same(api.Counts{}, api.Counts{Funcs: []api.FuncCounts{}}) || !Same(counts(api.FuncCounts{}), counts(counted(0, []int{}, [][2]int{}))) || !Same(counts(counted(0, nil, nil, api.Site{})), counts(counted(0, nil, nil, api.Site{Targets: []api.Target{}}))) {
		t.Error("no lists")
	}
}
