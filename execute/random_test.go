package execute_test

import (
	"fmt"
	"slices"
	"testing"

	"warmpath/api"
	"warmpath/execute"
	"warmpath/interpret"
	"warmpath/link"
)

// noted is how often something was seen.
type noted map[string]int

func (n noted) note(what ...any) { n[fmt.Sprint(what...)]++ }

func (n noted) often(t *testing.T, least int, all ...string) {
	t.Helper()
	for _, what := range all {
		if n[what] < least {
			t.Errorf("%q: only %d", what, n[what])
		}
	}
}

// TestPrograms has random programs in random layouts, with limits of all kinds.
func TestPrograms(t *testing.T) {
	m := newMaker(1)
	seen := noted{}
	var kinds [6]int
	for range 1500 {
		p := m.program()
		g, input := linked(t, p, m.layout(p)), m.input()
		events, last := told(g, input, 3000)
		whole := limited(g, events, last, api.Limit{Steps: 3000, Depth: api.MaxDepth})
		isRun(t, g, input, api.Limit{Steps: 3000, Depth: api.MaxDepth}, whole)
		seen.note("outcome ", whole.outcome.Kind, " ", whole.outcome.Trap)
		for _, l := range []api.Limit{
			{Steps: whole.steps, Depth: 1 + m.Intn(4)}, {Steps: whole.steps - 1, Depth: api.MaxDepth}, {Steps: m.Intn(whole.steps + 1), Depth: api.MaxDepth},
			{Steps: m.Intn(whole.steps + 1), Depth: 1 + m.Intn(4)}, {Steps: m.Intn(30), Depth: m.Intn(4)}, {Steps: m.Intn(3) - 1, Depth: m.Intn(3) - 1},
		} {
			r := limited(g, events, last, l)
			isRun(t, g, input, l, r)
			seen.note("functions ", min(len(r.stack), 4))
			for _, f := range r.fetches {
				kinds[f.Kind]++
			}
			if n := len(r.fetches); n > 0 && r.outcome.Kind == api.Exhausted {
				seen.note("last ", r.fetches[n-1].Kind)
			}
		}
	}
	seen.often(t, 20, "outcome 2 1", "outcome 2 2")
	seen.often(t, 100, "outcome 1 0", "outcome 2 3", "outcome 3 0", "functions 0", "functions 1", "functions 2", "functions 3", "functions 4")
	if slices.Min(kinds[:]) < 1000 {
		t.Errorf("kinds %v", kinds)
	}
	seen.often(t, 25, "last 0", "last 1", "last 2", "last 3", "last 4", "last 5")
}

// TestEachLimit has all limits of steps of short runs.
func TestEachLimit(t *testing.T) {
	m := newMaker(2)
	for range 150 {
		p := m.program()
		g, input := linked(t, p, m.layout(p)), m.input()
		events, last := told(g, input, 100)
		for _, depth := range []int{1, 2, 3, api.MaxDepth} {
			for steps := -1; steps <= 100; steps++ {
				l := api.Limit{Steps: steps, Depth: depth}
				isRun(t, g, input, l, limited(g, events, last, l))
			}
		}
	}
}

// jumps are how many fetches are jumps, or branches.
func jumps(g api.Image, l []api.Fetch) (n int) {
	for _, f := range l {
		if op := int(g.Code[f.Address]) % 128; op == api.CodeJump || op == api.CodeIf || op == api.CodeUnless {
			n++
		}
	}
	return n
}

// edges are how many jumps and branches ended blocks.
func edges(c api.Counts) (n int) {
	for _, f := range c.Funcs {
		for _, both := range f.Edges {
			n += both[0] + both[1]
		}
	}
	return n
}

// stops are the blocks in which addresses of a stack lie: those behind calls stand for the calls.
func stops(t *testing.T, g api.Image, stack []int) (l []api.Spot) {
	t.Helper()
	for i, at := range stack {
		if i > 0 {
			at--
		}
		place, ok := link.Find(g, at)
		if !ok {
			t.Fatalf("no place at %d", at)
		}
		l = append(l, api.Spot{Func: place.Func, Block: place.Block})
	}
	return l
}

// TestBehaviour runs programs and their images in some layouts: they differ by the steps of jumps alone.
func TestBehaviour(t *testing.T) {
	m := newMaker(3)
	seen := noted{}
	for range 1500 {
		p, input := m.program(), m.input()
		l := api.Limit{Steps: 1000 + m.Intn(2000), Depth: 1 + m.Intn(9)}
		r := interpret.Run(p, input, l)
		l.Steps *= 2
		if interpret.Run(p, input, l).Steps != r.Steps {
			seen.note("out of steps")
			continue
		}
		seen.note(r.Outcome.Kind)
		more := api.Limit{Steps: api.Factor*r.Steps + api.Factor, Depth: l.Depth}
		for range 3 {
			g := linked(t, p, m.layout(p))
			x := got(g, input, more)
			if fmt.Sprint(x.outcome) != fmt.Sprint(r.Outcome) || !slices.Equal(x.counters, r.Counters) {
				t.Fatalf("%v, %v, not %v, %v", x.outcome, x.counters, r.Outcome, r.Counters)
			}
			if x.steps-jumps(g, x.fetches) != r.Steps-edges(r.Counts) {
				t.Fatalf("%d steps, %d jumps, not %d, %d", x.steps, jumps(g, x.fetches), r.Steps, edges(r.Counts))
			}
			if got := stops(t, g, x.stack); fmt.Sprint(got) != fmt.Sprint(r.Stop) {
				t.Fatalf("%v, not %v", got, r.Stop)
			}
			seen.note("functions ", min(len(x.stack), 3))
		}
	}
	seen.often(t, 100, "1", "2", "3", "functions 0", "functions 1", "functions 2")
	seen.often(t, 25, "functions 3")
}

// TestGreaterLimits has runs that are not exhausted: greater limits change nothing.
func TestGreaterLimits(t *testing.T) {
	m := newMaker(4)
	for range 500 {
		p, input := m.program(), m.input()
		g := linked(t, p, m.layout(p))
		small, great := api.Limit{Steps: m.Intn(500), Depth: 1 + m.Intn(5)}, api.Limit{Steps: 1000, Depth: api.MaxDepth}
		a, b := got(g, input, small), got(g, input, great)
		if a.outcome.Kind != api.Exhausted && !a.same(b) {
			t.Fatalf("%v, not %v", a, b)
		}
		if n := len(a.outcome.Output); len(b.outcome.Output) < n || !slices.Equal(a.outcome.Output, b.outcome.Output[:n]) || len(a.fetches) > len(b.fetches) {
			t.Fatalf("%v is no beginning of %v", a, b)
		}
		if n, executed := a.steps, execute.Trace(g, input, api.Limit{Steps: a.steps, Depth: small.Depth}); n > small.Steps || len(executed) != len(a.fetches) {
			t.Fatalf("%d steps, %d fetches, not %d", n, len(executed), len(a.fetches))
		}
	}
}
