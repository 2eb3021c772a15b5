package interpret

import (
	"math"
	"testing"

	"warmpath/api"
)

// entering is a program in which each function takes steps to be entered.
func entering() api.Program {
	return program(
		of(0, 2, block(give(1), constant(0, 5), printed(0), call(1, 1, 0))),
		of(1, 3, block(jump(1), printed(0)), block(give(0))),
	)
}

// TestSteps has the runs of a program with each limit of steps.
func TestSteps(t *testing.T) {
	main := func(n int) api.FuncCounts { return counted(n, []int{n}, [][2]int{{}}) }
	f := func(a, b int) api.FuncCounts { return counted(a, []int{a, b}, [][2]int{{b, 0}, {}}) }
	inMain := api.Spot{}
	for limit, want := range []api.Run{
		{Outcome: exhausted(), Counts: counts(main(0), f(0, 0))},
		{Outcome: exhausted(), Counts: counts(main(0), f(0, 0))},
		{Outcome: exhausted(), Counts: counts(main(1), f(0, 0)), Steps: 2, Stop: []api.Spot{inMain}},
		{Outcome: exhausted(), Counts: counts(main(1), f(0, 0)), Steps: 3, Stop: []api.Spot{inMain}},
		{Outcome: exhausted(5), Counts: counts(main(1), f(0, 0)), Steps: 4, Stop: []api.Spot{inMain}},
		{Outcome: exhausted(5), Counts: counts(main(1), f(0, 0)), Steps: 5, Stop: []api.Spot{inMain}},
		{Outcome: exhausted(5), Counts: counts(main(1), f(0, 0)), Steps: 5, Stop: []api.Spot{inMain}},
		{Outcome: exhausted(5), Counts: counts(main(1), f(0, 0)), Steps: 5, Stop: []api.Spot{inMain}},
		{Outcome: exhausted(5), Counts: counts(main(1), f(1, 0)), Steps: 8, Stop: []api.Spot{{Func: 1}, inMain}},
		{Outcome: exhausted(5, 5), Counts: counts(main(1), f(1, 0)), Steps: 9, Stop: []api.Spot{{Func: 1}, inMain}},
		{Outcome: exhausted(5, 5), Counts: counts(main(1), f(1, 1)), Steps: 10, Stop: []api.Spot{{Func: 1, Block: 1}, inMain}},
		{Outcome: exhausted(5, 5), Counts: counts(main(1), f(1, 1)), Steps: 11, Stop: []api.Spot{inMain}},
		{Outcome: returned(5, 5, 5), Counts: counts(main(1), f(1, 1)), Steps: 12},
		{Outcome: returned(5, 5, 5), Counts: counts(main(1), f(1, 1)), Steps: 12},
	} {
		isRun(t, entering(), nil, api.Limit{Steps: limit, Depth: 2}, want)
	}
	for _, limit := range []int{12, 1000, api.MaxSteps, api.MaxSteps + 1, greatest} {
		ends(t, entering(), nil, api.Limit{Steps: limit, Depth: 2}, returned(5, 5, 5), 12)
	}
	for _, limit := range []int{-1, -1000, -api.MaxSteps, least} {
		isRun(t, entering(), nil, api.Limit{Steps: limit, Depth: 2}, api.Run{Outcome: exhausted(), Counts: counts(main(0), f(0, 0))})
	}
}

// TestStepsOfValues cuts off a call of a function value at each of its steps.
func TestStepsOfValues(t *testing.T) {
	p := program(of(0, 1, block(give(0), function(0, 1), callOf(0, 0, 0))), of(1, 2, block(give(1))))
	f := func(n int) api.FuncCounts { return counted(n, []int{n}, [][2]int{{}}) }
	main := counted(1, []int{1}, [][2]int{{}}, site(0, 1, 1, 1))
	for limit, want := range []api.Run{
		{Outcome: exhausted(), Counts: counts(f(0), f(0))},
		{Outcome: exhausted(), Counts: counts(f(1), f(0)), Steps: 1, Stop: []api.Spot{{}}},
		{Outcome: exhausted(), Counts: counts(f(1), f(0)), Steps: 2, Stop: []api.Spot{{}}},
		{Outcome: exhausted(), Counts: counts(f(1), f(0)), Steps: 3, Stop: []api.Spot{{}}},
		{Outcome: exhausted(), Counts: counts(f(1), f(0)), Steps: 3, Stop: []api.Spot{{}}},
		{Outcome: exhausted(), Counts: counts(main, f(1)), Steps: 5, Stop: []api.Spot{{Func: 1}, {}}},
		{Outcome: exhausted(), Counts: counts(main, f(1)), Steps: 6, Stop: []api.Spot{{}}},
		{Outcome: returned(0), Counts: counts(main, f(1)), Steps: 7},
	} {
		isRun(t, p, nil, api.Limit{Steps: limit, Depth: 2}, want)
	}
	isRun(t, p, nil, api.Limit{Steps: 100, Depth: 1}, api.Run{Outcome: exhausted(), Counts: counts(f(1), f(0)), Steps: 3, Stop: []api.Spot{{}}})
}

// TestGreatestLimit looks at the limit itself: no test can take so many steps.
func TestGreatestLimit(t *testing.T) {
	for l, want := range map[api.Limit]api.Limit{
		{Steps: 5, Depth: 6}:                               {Steps: 5, Depth: 6},
		{Steps: 0, Depth: 0}:                               {},
		{Steps: -1, Depth: 7}:                              {Depth: 7},
		{Steps: 7, Depth: -1}:                              {Steps: 7},
		{Steps: least, Depth: least}:                       {},
		{Steps: api.MaxSteps, Depth: api.MaxDepth}:         {Steps: api.MaxSteps, Depth: api.MaxDepth},
		{Steps: api.MaxSteps + 1, Depth: api.MaxDepth - 1}: {Steps: api.MaxSteps, Depth: api.MaxDepth - 1},
		{Steps: api.MaxSteps - 1, Depth: api.MaxDepth + 1}: {Steps: api.MaxSteps - 1, Depth: api.MaxDepth},
		{Steps: math.MaxInt, Depth: math.MaxInt}:           {Steps: api.MaxSteps, Depth: api.MaxDepth},
	} {
		if got := within(l); got != want {
			t.Errorf("%v: %v, not %v", l, got, want)
		}
	}
}

// TestNoRegisters has a function that is entered without steps, also with a limit below 0.
func TestNoRegisters(t *testing.T) {
	p := program(of(0, 0, block(jump(0))))
	for _, limit := range []int{least, -5, -1, 0} {
		isRun(t, p, nil, api.Limit{Steps: limit, Depth: 1}, api.Run{Outcome: exhausted(), Counts: counts(counted(1, []int{1}, [][2]int{{}})), Stop: []api.Spot{{}}})
		isRun(t, p, nil, api.Limit{Steps: limit}, api.Run{Outcome: exhausted(), Counts: counts(counted(0, []int{0}, [][2]int{{}}))})
	}
	isRun(t, p, nil, api.Limit{Steps: 7, Depth: 1}, api.Run{Outcome: exhausted(), Counts: counts(counted(1, []int{8}, [][2]int{{7, 0}})), Steps: 7, Stop: []api.Spot{{}}})
	p = program(of(0, 1, block(give(0), call(0, 1))), of(0, 0, block(jump(1)), block(jump(0))))
	isRun(t, p, nil, api.Limit{Steps: 2, Depth: 2}, api.Run{Outcome: exhausted(), Counts: counts(counted(1, []int{1}, [][2]int{{}}), counted(1, []int{1, 0}, [][2]int{{}, {}})), Steps: 2, Stop: []api.Spot{{Func: 1}, {}}})
	isRun(t, p, nil, api.Limit{Steps: 5, Depth: 2}, api.Run{Outcome: exhausted(), Counts: counts(counted(1, []int{1}, [][2]int{{}}), counted(1, []int{2, 2}, [][2]int{{2, 0}, {1, 0}})), Steps: 5, Stop: []api.Spot{{Func: 1, Block: 1}, {}}})
}

func TestNoDepth(t *testing.T) {
	for _, depth := range []int{least, -api.MaxDepth, -1, 0} {
		for _, steps := range []int{-1, 0, 1, 100, greatest} {
			isRun(t, entering(), nil, api.Limit{Steps: steps, Depth: depth}, api.Run{Outcome: exhausted(), Counts: Zero(entering())})
		}
	}
}

// recursive has a function that calls itself as often as the input says, without end for a number below 0. It takes 10 steps with its call, and 1 behind it; 8 if it does not call itself.
func recursive(by api.Instr) api.Program {
	return program(
		of(0, 2, block(give(0), read(0), call(0, 1, 0))),
		of(1, 4, block(branch(0, 1, 2), printed(0)), block(give(0), constant(1, 1), binary(0, 0, api.OpSubtract, 1), function(1, 1), by), block(give(3), constant(3, 9))),
	)
}

// TestDepth has recursion with each limit of depth, by calls and by calls of function values.
func TestDepth(t *testing.T) {
	for _, by := range []api.Instr{call(0, 1, 0), callOf(0, 1, 0)} {
		for most := 1; most < 9; most++ {
			for n := range 9 {
				output, depth := []int(nil), min(most, n+2)
				for i := range depth - 1 {
					output = append(output, n-i)
				}
				l := api.Limit{Steps: 10000, Depth: most}
				switch {
				case most == 1:
					ends(t, recursive(by), []int{n}, l, exhausted(), 2+2)
				case most < n+2:
					ends(t, recursive(by), []int{n}, l, exhausted(output...), 4+(most-1)*10)
				default:
					ends(t, recursive(by), []int{n}, l, returned(9, output...), 4+n*(10+1)+8+1)
				}
			}
		}
	}
}

// TestGreatestDepth has recursion that is as deep as can be.
func TestGreatestDepth(t *testing.T) {
	for _, by := range []api.Instr{call(0, 1, 0), callOf(0, 1, 0)} {
		var stop []api.Spot
		var output []int
		for i := range api.MaxDepth - 1 {
			stop = append(stop, api.Spot{Func: 1, Block: 1})
			output = append(output, -1-i)
		}
		stop = append(stop, api.Spot{})
		f := counted(api.MaxDepth-1, []int{api.MaxDepth - 1, api.MaxDepth - 1, 0}, [][2]int{{api.MaxDepth - 1, 0}, {}, {}})
		if by.Kind == api.InstrCallValue {
			f.Sites = []api.Site{site(1, 3, 1, api.MaxDepth-2)}
		}
		for _, depth := range []int{api.MaxDepth, api.MaxDepth + 1, 1 << 20, greatest} {
			l := api.Limit{Steps: greatest, Depth: depth}
			isRun(t, recursive(by), []int{-1}, l, api.Run{Outcome: exhausted(output...), Counts: counts(counted(1, []int{1}, [][2]int{{}}), f), Steps: 4 + 10*(api.MaxDepth-1), Stop: stop})
			if r := Run(recursive(by), []int{api.MaxDepth - 2}, l); r.Outcome.Kind != api.Returned || len(r.Stop) != 0 || r.Counts.Funcs[1].Entries != api.MaxDepth-1 {
				t.Errorf("depth %d: %v", depth, r)
			}
			if r := Run(recursive(by), []int{api.MaxDepth - 1}, l); r.Outcome.Kind != api.Exhausted || len(r.Stop) != api.MaxDepth {
				t.Errorf("depth %d: %v", depth, r)
			}
		}
	}
}

// TestDepthIsGivenBack calls a function often, one call behind the other.
func TestDepthIsGivenBack(t *testing.T) {
	p := program(of(0, 2, block(jump(1), constant(0, 1000)), block(branch(0, 1, 2), call(1, 1), binary(0, 0, api.OpSubtract, 1)), block(give(1))), of(0, 1, block(give(0), constant(0, 1))))
	isRun(t, p, nil, api.Limit{Steps: 100000, Depth: 2}, api.Run{
		Outcome: returned(1),
		Counts:  counts(counted(1, []int{1, 1000, 1}, [][2]int{{1, 0}, {999, 1}, {}}), counted(1000, []int{1000}, [][2]int{{}})),
		Steps:   2 + 2 + 1000*(3+3) + 1,
	})
}

// TestOrderOfEnds has runs that could end for several reasons.
func TestOrderOfEnds(t *testing.T) {
	values := func(number, args int) api.Program {
		return program(of(0, 1, block(give(0), constant(0, number), callOf(0, 0, []int{0, 0}[:args]...))), of(1, 5, block(give(0))))
	}
	one := api.Limit{Steps: 100, Depth: 1}
	ends(t, values(1, 1), nil, one, exhausted(), 3)
	ends(t, values(2, 1), nil, one, trapped(api.TrapValue), 3)
	ends(t, values(1, 2), nil, one, trapped(api.TrapValue), 3)
	ends(t, values(-1, 0), nil, one, trapped(api.TrapValue), 3)
	for steps, want := range []api.Outcome{exhausted(), exhausted(), exhausted(), trapped(api.TrapValue), trapped(api.TrapValue)} {
		ends(t, values(1, 2), nil, api.Limit{Steps: steps, Depth: 2}, want, min(steps, 3))
	}
	for steps := 3; steps < 8; steps++ {
		ends(t, values(1, 1), nil, api.Limit{Steps: steps, Depth: 2}, exhausted(), 3)
	}
	ends(t, values(1, 1), nil, api.Limit{Steps: 10, Depth: 2}, returned(1), 10)
	divide := program(of(0, 2, block(give(0), printed(0), binary(0, 0, api.OpDivide, 1))))
	ends(t, divide, nil, api.Limit{Steps: 3, Depth: 1}, exhausted(0), 3)
	ends(t, divide, nil, api.Limit{Steps: 4, Depth: 1}, trapped(api.TrapDivide, 0), 4)
	ends(t, divide, nil, api.Limit{Steps: 2, Depth: 1}, exhausted(), 2)
}

// TestOutput prints as many numbers as can be printed, and more.
func TestOutput(t *testing.T) {
	var all []int
	for i := range api.MaxOutput {
		all = append(all, i)
	}
	loop := func(behind ...api.Instr) api.Program {
		return program(of(0, 4, block(branch(2, 1, 2), read(1), constant(3, 1), binary(2, 0, api.OpLess, 1)), block(branch(2, 1, 2), printed(0), binary(0, 0, api.OpAdd, 3), binary(2, 0, api.OpLess, 1)), block(give(2), behind...)))
	}
	for _, n := range []int{0, 1, 100, api.MaxOutput - 1, api.MaxOutput} {
		ends(t, loop(), []int{n}, ample, returned(0, all[:n]...), 4+4+4*n+1)
	}
	for _, n := range []int{api.MaxOutput + 1, api.MaxOutput + 2, 2 * api.MaxOutput} {
		isRun(t, loop(), []int{n}, ample, api.Run{
			Outcome: exhausted(all...),
			Counts:  counts(counted(1, []int{1, api.MaxOutput + 1, 0}, [][2]int{{1, 0}, {api.MaxOutput, 0}, {}})),
			Steps:   4 + 4 + 4*api.MaxOutput + 1,
			Stop:    []api.Spot{{Block: 1}},
		})
	}
	steps := 4 + 4 + 4*api.MaxOutput
	ends(t, loop(printed(0)), []int{api.MaxOutput}, ample, exhausted(all...), steps+1)
	ends(t, loop(constant(2, 7)), []int{api.MaxOutput}, ample, returned(7, all...), steps+2)
	ends(t, loop(binary(0, 0, api.OpDivide, 2), printed(0)), []int{api.MaxOutput}, ample, trapped(api.TrapDivide, all...), steps+1)
	ends(t, loop(printed(0)), []int{api.MaxOutput}, api.Limit{Steps: steps, Depth: 1}, exhausted(all...), steps)
}
