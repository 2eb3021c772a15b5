package execute_test

import (
	"testing"

	"warmpath/api"
	"warmpath/execute"
	"warmpath/link"
)

// TestArguments has arguments in the first slots, 0 in all others whatever lay there before, and slots that belong to one entry alone.
func TestArguments(t *testing.T) {
	shown := []api.Instr{show(0), show(1), show(2), show(3), constant(0, 90), constant(1, 91), constant(2, 92), constant(3, 93)}
	p := program(
		function(0, 4, block(give(3), constant(1, 1), constant(2, 2), constant(3, 3), call(2, 1, 3, 1), show(2), call(3, 1, 2, 2), call(0, 2), show(0), show(1), show(2))),
		function(2, 5, block(give(1), shown...)),
		function(0, 4, block(give(0), shown...)),
	)
	want := returns(91, 3, 1, 0, 0, 91, 91, 91, 0, 0, 0, 0, 0, 0, 90, 1, 91)
	isRun(t, image(t, p), nil, api.Limit{}, result{exhausted(), 0, nil, []int{0, 0, 0}, nil})
	if o := outcome(t, p); o.Kind != want.Kind || o.Value != want.Value || len(o.Output) != len(want.Output) {
		t.Fatalf("%v, not %v", o, want)
	}
	for i, n := range outcome(t, p).Output {
		if n != want.Output[i] {
			t.Errorf("number %d: %d, not %d", i, n, want.Output[i])
		}
	}
	// as many arguments as there can be slots, in the order of Args
	all := make([]int, api.MaxRegs)
	var put []api.Instr
	for i := range all {
		all[i] = api.MaxRegs - 1 - i
		put = append(put, constant(i, 1000+i))
	}
	p = program(
		function(0, api.MaxRegs, block(give(0), append(put, call(0, 1, all...))...)),
		function(api.MaxRegs, api.MaxRegs, block(give(0), show(0), show(1), show(api.MaxRegs-1))),
	)
	if o := outcome(t, p); o.Value != 1249 || len(o.Output) != 3 || o.Output[0] != 1249 || o.Output[1] != 1248 || o.Output[2] != 1000 {
		t.Errorf("%v", o)
	}
}

// TestCallsByAddress enters the function whose address a call has, in each order of functions.
func TestCallsByAddress(t *testing.T) {
	p := program(
		function(0, 2, block(give(0), call(0, 1), show(0), call(0, 2), show(0), call(0, 3), show(0))),
		function(0, 1, block(leap(1)), block(give(0), constant(0, 10))),
		function(0, 2, block(give(1), constant(1, 20))),
		function(0, 3, block(branch(0, 1, 1)), block(leap(2)), block(give(2), constant(2, 30))),
	)
	plain := link.Plain(p)
	for _, funcs := range [][]int{{0, 1, 2, 3}, {3, 2, 1, 0}, {1, 3, 0, 2}, {2, 0, 3, 1}} {
		plain.Funcs = funcs
		o, steps := execute.Run(linked(t, p, plain), nil, enough)
		if o.Kind != api.Returned || o.Value != 30 || len(o.Output) != 3 || o.Output[0] != 10 || o.Output[1] != 20 || steps != 7+2+2+1+2+2+2+3 {
			t.Errorf("%v: %v, %d steps", funcs, o, steps)
		}
	}
}

// TestCallsOfValues has numbers of functions that can be called, and others.
func TestCallsOfValues(t *testing.T) {
	p := program(
		function(0, 2, block(give(1), read(0), callOf(1, 0, 0))),
		function(1, 1, block(give(0), show(0))),
		function(0, 1, block(give(0))),
		function(2, 2, block(give(0))),
		function(1, 2, block(give(0), constant(0, 7))),
		function(1, 1, block(give(0))),
	)
	p.Callable = 5
	for number, want := range map[int]api.Outcome{
		0: trapped(api.TrapValue), 1: returns(1, 1), 2: trapped(api.TrapValue), 3: trapped(api.TrapValue), 4: returns(7), 5: trapped(api.TrapValue), 6: trapped(api.TrapValue),
		-1: trapped(api.TrapValue), least: trapped(api.TrapValue), greatest: trapped(api.TrapValue), 1<<32 + 1: trapped(api.TrapValue),
	} {
		m := image(t, p)
		// 0: read, 2: call of a value, 7: return
		first := fetches([3]int{0, 2, 0}, [3]int{2, 5, 0})
		if want.Kind == api.Trapped {
			isRun(t, m, []int{number}, enough, result{want, 4, first, []int{0, 0, 0}, []int{2}})
			// the trap comes ahead of the depth
			isRun(t, m, []int{number}, api.Limit{Steps: 4, Depth: 1}, result{want, 4, first, []int{0, 0, 0}, []int{2}})
			isRun(t, m, []int{number}, api.Limit{Steps: 3, Depth: 1}, result{exhausted(), 3, first[:1], []int{0, 0, 0}, []int{0}})
			continue
		}
		if o, _ := execute.Run(m, []int{number}, enough); o.Kind != want.Kind || o.Value != want.Value || len(o.Output) != len(want.Output) {
			t.Errorf("%d: %v, not %v", number, o, want)
		}
		isRun(t, m, []int{number}, api.Limit{Steps: 9, Depth: 1}, result{exhausted(), 4, first, []int{0, 0, 0}, []int{2}})
		isRun(t, m, []int{number}, api.Limit{Steps: 4, Depth: 2}, result{exhausted(), 4, first, []int{0, 0, 0}, []int{2}})
		first[1].Kind = 5
		steps := 4 + m.Frames[number]
		isRun(t, m, []int{number}, api.Limit{Steps: steps, Depth: 2}, result{exhausted(), steps, first, []int{0, 0, 0}, []int{m.Entries[number], 7}})
	}
	// no function can be called
	p.Callable = 0
	if o := outcome(t, p, 1); o.Trap != api.TrapValue {
		t.Errorf("%v", o)
	}
	// without arguments, and the first function
	p.Funcs[0].Blocks[0].Instrs[1] = callOf(1, 0)
	p.Callable = 3
	m := image(t, p)
	isRun(t, m, []int{2}, enough, result{returns(0), 2 + 3 + 2, fetches([3]int{0, 2, 0}, [3]int{2, 4, 5}, [3]int{m.Entries[2], 2, 4}, [3]int{6, 2, 4}), []int{0, 0, 0}, nil})
	if o := outcome(t, p, 0, 1); o.Trap != api.TrapValue {
		t.Errorf("%v", o)
	}
	if o := outcome(t, p, 0, 0, 2); o.Kind != api.Returned {
		t.Errorf("%v", o)
	}
}

// TestDepth has functions that call themselves, as deep as the limit permits and deeper.
func TestDepth(t *testing.T) {
	// calls itself so often as the input says
	p := program(
		function(0, 2, block(give(1), read(0), call(1, 1, 0))),
		function(1, 3, block(branch(0, 1, 2)), block(give(2), constant(1, 1), binary(api.OpSubtract, 1, 0, 1), call(2, 1, 1), binary(api.OpAdd, 2, 2, 0)), block(give(2), count(1))),
	)
	m := image(t, p)
	for _, x := range []struct{ input, depth, least int }{{0, 2, 2}, {1, 3, 3}, {5, 7, 7}, {398, 400, 400}, {398, 401, 400}, {398, greatest, 400}, {100, greatest, 102}} {
		sum := x.input * (x.input + 1) / 2
		o, _ := execute.Run(m, []int{x.input}, api.Limit{Steps: 1 << 20, Depth: x.depth})
		if o.Kind != api.Returned || o.Value != sum {
			t.Errorf("%v: %v", x, o)
		}
		if l := execute.Stack(m, []int{x.input}, api.Limit{Steps: 1 << 20, Depth: x.depth}); len(l) != 0 {
			t.Errorf("%v: %v", x, l)
		}
		o, _ = execute.Run(m, []int{x.input}, api.Limit{Steps: 1 << 20, Depth: x.least - 1})
		l := execute.Stack(m, []int{x.input}, api.Limit{Steps: 1 << 20, Depth: x.least - 1})
		if o.Kind != api.Exhausted || len(l) != x.least-1 {
			t.Errorf("%v: %v, %v", x, o, l)
		}
	}
	for _, depth := range []int{400, 401, greatest} {
		o, _ := execute.Run(m, []int{399}, api.Limit{Steps: greatest, Depth: depth})
		l := execute.Stack(m, []int{399}, api.Limit{Steps: greatest, Depth: depth})
		if o.Kind != api.Exhausted || len(l) != 400 || execute.Counters(m, []int{399}, api.Limit{Steps: greatest, Depth: depth})[1] != 0 {
			t.Errorf("depth %d: %v, %v", depth, o, l)
		}
		// the innermost one stands at its call, the others behind theirs
		start, _ := link.Block(m, 1, 1)
		for i, at := range l {
			want := start.Address + 15 + 8
			switch i {
			case 0:
				want -= 8
			case 399:
				want = 2 + 8
			}
			if at != want {
				t.Errorf("%d: %d, not %d", i, at, want)
			}
		}
	}
}
