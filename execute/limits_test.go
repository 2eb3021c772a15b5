package execute_test

import (
	"fmt"
	"slices"
	"testing"

	"warmpath/api"
	"warmpath/execute"
)

// printer prints 7 so often as the first number that it reads says, and then returns it.
func printer() api.Program {
	return program(function(0, 4, block(leap(1), read(0), constant(1, 7), constant(3, 1)), block(branch(0, 2, 3)), block(leap(1), show(1), binary(api.OpSubtract, 0, 0, 3), count(0)), block(give(1))))
}

func TestOutput(t *testing.T) {
	m := image(t, printer())
	all := make([]int, api.MaxOutput)
	for i := range all {
		all[i] = 7
	}
	for _, n := range []int{0, 1, api.MaxOutput - 1, api.MaxOutput} {
		o, steps := execute.Run(m, []int{n}, enough)
		if fmt.Sprint(o) != fmt.Sprint(returns(7, all[:n]...)) || steps != 4+3+5*n+2 {
			t.Errorf("%d: %d, %d numbers, %d steps", n, o.Kind, len(o.Output), steps)
		}
	}
	for _, n := range []int{api.MaxOutput + 1, api.MaxOutput + 2, -1} {
		o, steps := execute.Run(m, []int{n}, enough)
		if fmt.Sprint(o) != fmt.Sprint(exhausted(all...)) || steps != 4+3+5*api.MaxOutput+2 {
			t.Errorf("%d: %d, %d numbers, %d steps", n, o.Kind, len(o.Output), steps)
		}
		// the print that would be one too many is the last instruction
		l, counters, stack := execute.Trace(m, []int{n}, enough), execute.Counters(m, []int{n}, enough), execute.Stack(m, []int{n}, enough)
		if len(l) != 3+5*api.MaxOutput+2 || counters[0] != api.MaxOutput || len(stack) != 1 || stack[0] != l[len(l)-1].Address || l[len(l)-1] != (api.Fetch{Address: stack[0], Size: 2}) {
			t.Errorf("%d: %d fetches, %v, %v", n, len(l), counters, stack)
		}
	}
}

// TestTraceLimit has runs of as many instructions as a trace can have, less, and more.
func TestTraceLimit(t *testing.T) {
	// a function with three slots is called so often as the input says, which takes five instructions
	p := program(
		function(0, 3, block(leap(1), read(0), constant(1, 1)), block(branch(0, 2, 3), call(2, 1), binary(api.OpSubtract, 0, 0, 1)), block(leap(1)), block(give(0))),
		function(0, 3, block(give(0))),
	)
	m := image(t, p)
	for _, n := range []int{api.MaxTrace/5 - 3, api.MaxTrace/5 - 2, api.MaxTrace / 5, api.MaxTrace/5 + 1, api.MaxTrace/5 + 2} {
		events, last := told(m, []int{n}, 1<<24)
		whole := limited(m, events, last, api.Limit{Steps: greatest, Depth: 2})
		isRun(t, m, []int{n}, api.Limit{Steps: greatest, Depth: 2}, whole)
		for less := 1; less <= 7; less += 2 {
			l := api.Limit{Steps: whole.steps - less, Depth: 2}
			isRun(t, m, []int{n}, l, limited(m, events, last, l))
		}
	}
	// each number of instructions around the limit, without entries behind the first one
	m = image(t, program(function(0, 1, block(leap(0)))))
	for n := api.MaxTrace - 3; n <= api.MaxTrace+3; n++ {
		l := api.Limit{Steps: 1 + n, Depth: 1}
		fetches := execute.Trace(m, nil, l)
		if _, steps := execute.Run(m, nil, l); len(fetches) != min(n, api.MaxTrace) || steps != 1+n {
			t.Errorf("%d: %d fetches, %d steps", n, len(fetches), steps)
		}
	}
}

// TestTraceOfLongRun has a run that does not end within any time, but whose trace is full soon.
func TestTraceOfLongRun(t *testing.T) {
	m := image(t, program(function(0, 1, block(leap(0)))))
	if l := execute.Trace(m, nil, api.Limit{Steps: greatest, Depth: greatest}); len(l) != api.MaxTrace || l[api.MaxTrace-1] != (api.Fetch{Size: 2}) {
		t.Errorf("%d fetches", len(l))
	}
}

// TestKindsAtTraceLimit has a call, a return or a branch as the last fetch of a full trace.
func TestKindsAtTraceLimit(t *testing.T) {
	kinds := map[int]bool{}
	for ahead := range 6 {
		var first []api.Instr
		for range ahead {
			first = append(first, count(2))
		}
		limit := api.Limit{Steps: 1 << 18, Depth: 2}
		m := image(t, program(
			function(0, 2, block(leap(1), append(first, constant(1, 1))...), block(branch(0, 2, 1), call(0, 1), callOf(0, 1)), block(give(0))),
			function(0, 1, block(give(0))),
		))
		events, last := told(m, nil, 1<<18)
		want := limited(m, events, last, limit)
		isRun(t, m, nil, limit, want)
		kinds[want.fetches[api.MaxTrace-1].Kind] = true
	}
	for _, kind := range []int{1, 3, 4, 5} {
		if !kinds[kind] {
			t.Errorf("no kind %d at the end: %v", kind, kinds)
		}
	}
}

// TestGreatestSteps has limits that count as the greatest one.
func TestGreatestSteps(t *testing.T) {
	m := image(t, printer())
	for _, steps := range []int{api.MaxSteps, api.MaxSteps + 1, greatest} {
		if o, n := execute.Run(m, []int{9}, api.Limit{Steps: steps, Depth: 1}); o.Kind != api.Returned || n != 54 {
			t.Errorf("%d: %v, %d steps", steps, o, n)
		}
	}
}

// TestManyCounters has as many counters as there can be, and none.
func TestManyCounters(t *testing.T) {
	p := program(function(0, 1, block(give(0), count(0), count(api.MaxCounters-1), count(api.MaxCounters-1), count(256))))
	p.Counters = api.MaxCounters
	l := execute.Counters(image(t, p), nil, enough)
	if len(l) != api.MaxCounters || l[0] != 1 || l[256] != 1 || l[api.MaxCounters-1] != 2 || l[255] != 0 {
		t.Errorf("%d counters", len(l))
	}
	p = program(function(0, 1, block(give(0))))
	p.Counters = 0
	if l := execute.Counters(image(t, p), nil, enough); len(l) != 0 {
		t.Errorf("%v", l)
	}
}

// TestGreatestImage runs an image of nearly as many bytes as there can be, whose second function begins at the address 0.
func TestGreatestImage(t *testing.T) {
	var long []api.Instr
	for range 2046 {
		long = append(long, callOf(0, 0, make([]int, 250)...))
	}
	p := program(function(0, 2, block(give(1), call(1, 1))), function(0, 1, block(give(0), constant(0, 5), constant(0, 6))), function(0, 1, block(give(0), long...)), function(0, 1, block(give(0), long...)))
	m := linked(t, p, api.Layout{Funcs: []int{1, 2, 3, 0}, Blocks: [][]int{{0}, {0}, {0}, {0}}})
	entry := len(m.Code) - 9
	isRun(t, m, nil, enough, result{returns(6), 2 + 1 + 2 + 3, fetches([3]int{entry, 7, 3}, [3]int{0, 10, 0}, [3]int{10, 10, 0}, [3]int{20, 2, 4}, [3]int{entry + 7, 2, 4}), []int{0, 0, 0}, nil})
}

// TestNewResults changes results: other ones stay what they are.
func TestNewResults(t *testing.T) {
	m, input := image(t, printer()), []int{3}
	before := fmt.Sprint(got(m, input, enough), m, input)
	r := got(m, input, enough)
	for i := range r.outcome.Output {
		r.outcome.Output[i]++
	}
	for i := range r.counters {
		r.counters[i]++
	}
	for i := range r.fetches {
		r.fetches[i].Address++
	}
	_, _, _ = append(r.outcome.Output, 1), append(r.counters, 1), append(r.fetches, api.Fetch{})
	stack := execute.Stack(m, input, api.Limit{Steps: 10, Depth: 1})
	stack[0]++
	if after := fmt.Sprint(got(m, input, enough), m, input); after != before {
		t.Errorf("%s, not %s", after, before)
	}
}

// TestRoomOfSlices lays what belongs to somebody else behind the slices of the arguments.
func TestRoomOfSlices(t *testing.T) {
	m := image(t, printer())
	code, entries, input := append(slices.Clone(m.Code), 16, 0), []int{0, 99}, []int{2, 5, 6}
	frames, params, globals := []int{4, 99}, []int{0, 99}, append(slices.Clone(m.Globals), api.Global{Name: "x", Size: 7})
	m.Code, m.Entries, m.Frames, m.Params, m.Globals = code[:len(m.Code)], entries[:1], frames[:1], params[:1], globals[:3]
	before := fmt.Sprint(code, entries, input, frames, params, globals)
	isRun(t, m, input[:1], api.Limit{Steps: 19, Depth: 1}, limitedTo(m, []int{2}, api.Limit{Steps: 19, Depth: 1}))
	if after := fmt.Sprint(code, entries, input, frames, params, globals); after != before {
		t.Errorf("%s, not %s", after, before)
	}
}

func limitedTo(m api.Image, input []int, l api.Limit) result {
	events, last := told(m, input, 1<<20)
	return limited(m, events, last, l)
}
