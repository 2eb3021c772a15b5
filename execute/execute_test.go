package execute_test

import (
	"fmt"
	"slices"
	"testing"

	"warmpath/api"
	"warmpath/execute"
	"warmpath/selecting"
)

var enough = api.Limit{Steps: 1 << 20, Depth: api.MaxDepth}

// got is what all functions say of a run.
func got(m api.Image, input []int, l api.Limit) (r result) {
	r.outcome, r.steps = execute.Run(m, input, l)
	r.fetches, r.counters, r.stack = execute.Trace(m, input, l), execute.Counters(m, input, l), execute.Stack(m, input, l)
	return r
}

// same reports whether two runs are the same, whether lists are nil or empty.
func (r result) same(x result) bool {
	a, b := r.outcome, x.outcome
	return a.Kind == b.Kind && a.Value == b.Value && a.Trap == b.Trap && slices.Equal(a.Output, b.Output) && r.steps == x.steps && slices.Equal(r.fetches, x.fetches) && slices.Equal(r.counters, x.counters) && slices.Equal(r.stack, x.stack)
}

// copied is an image in memory of its own.
func copied(m api.Image) api.Image {
	m.Code, m.Entries, m.Params, m.Frames = slices.Clone(m.Code), slices.Clone(m.Entries), slices.Clone(m.Params), slices.Clone(m.Frames)
	m.Globals, m.Places = slices.Clone(m.Globals), slices.Clone(m.Places)
	return m
}

func sameImage(a, b api.Image) bool {
	return slices.Equal(a.Code, b.Code) && slices.Equal(a.Entries, b.Entries) && slices.Equal(a.Params, b.Params) && slices.Equal(a.Frames, b.Frames) && a.Callable == b.Callable && a.Counters == b.Counters && slices.Equal(a.Globals, b.Globals) && slices.Equal(a.Places, b.Places)
}

// isRun checks a run, and that the arguments stay what they are.
func isRun(t *testing.T, m api.Image, input []int, l api.Limit, want result) {
	t.Helper()
	image, numbers := copied(m), slices.Clone(input)
	if r := got(m, input, l); !r.same(want) {
		t.Fatalf("%.2000s, input %v, limit %v:\n%.2000s, not\n%.2000s", fmt.Sprint(m), input, l, fmt.Sprint(r), fmt.Sprint(want))
	}
	if !sameImage(m, image) || !slices.Equal(input, numbers) {
		t.Fatalf("%.2000s, %v, not %.2000s, %v", fmt.Sprint(m), input, fmt.Sprint(image), numbers)
	}
}

// returns is the outcome of a run that returns.
func returns(value int, output ...int) api.Outcome {
	return api.Outcome{Kind: api.Returned, Value: value, Output: output}
}

func trapped(trap int, output ...int) api.Outcome {
	return api.Outcome{Kind: api.Trapped, Trap: trap, Output: output}
}

func exhausted(output ...int) api.Outcome {
	return api.Outcome{Kind: api.Exhausted, Output: output}
}

// fetches have an address, a size and a kind each.
func fetches(l ...[3]int) (all []api.Fetch) {
	for _, x := range l {
		all = append(all, api.Fetch{Address: x[0], Size: x[1], Kind: x[2]})
	}
	return all
}

// outcome is how a program ends, in its natural layout.
func outcome(t *testing.T, p api.Program, input ...int) api.Outcome {
	t.Helper()
	o, _ := execute.Run(image(t, p), input, enough)
	return o
}

func TestReturnAlone(t *testing.T) {
	for _, regs := range []int{1, 2, api.MaxRegs} {
		m := image(t, api.Program{Funcs: []api.Function{function(0, regs, block(give(regs-1)))}})
		isRun(t, m, nil, enough, result{returns(0), 1 + regs, fetches([3]int{0, 2, 4}), nil, nil})
		isRun(t, m, nil, api.Limit{Steps: 1 + regs, Depth: 1}, result{returns(0), 1 + regs, fetches([3]int{0, 2, 4}), nil, nil})
		isRun(t, m, nil, api.Limit{Steps: regs, Depth: 1}, result{exhausted(), regs, nil, nil, []int{0}})
		isRun(t, m, nil, api.Limit{Steps: regs - 1, Depth: 1}, result{exhausted(), 0, nil, nil, nil})
		isRun(t, m, nil, api.Limit{Steps: 1 + regs, Depth: 0}, result{exhausted(), 0, nil, nil, nil})
	}
}

// TestInstructions has each instruction that is no jump and no call.
func TestInstructions(t *testing.T) {
	load := func(dst, global int) api.Instr { return api.Instr{Kind: api.InstrLoad, Dst: dst, Value: global} }
	store := func(a, global int) api.Instr { return api.Instr{Kind: api.InstrStore, A: a, Value: global} }
	element := func(dst, a, global int) api.Instr {
		return api.Instr{Kind: api.InstrElement, Dst: dst, A: a, Value: global}
	}
	set := func(a, b, global int) api.Instr {
		return api.Instr{Kind: api.InstrSet, A: a, B: b, Value: global}
	}
	unary := func(op, dst, a int) api.Instr {
		return api.Instr{Kind: api.InstrUnary, Op: op, Dst: dst, A: a}
	}
	for i, x := range []struct {
		want   api.Outcome // with register 0
		instrs []api.Instr
	}{
		{returns(0), nil},
		{returns(7), []api.Instr{constant(0, 7)}},
		{returns(least), []api.Instr{constant(0, least)}},
		{returns(greatest), []api.Instr{constant(0, greatest)}},
		{returns(-1), []api.Instr{constant(0, -1)}},
		{returns(5), []api.Instr{constant(3, 5), {Kind: api.InstrMove, Dst: 0, A: 3}}},
		{returns(-5), []api.Instr{constant(3, 5), unary(api.OpNegate, 0, 3)}},
		{returns(least), []api.Instr{constant(3, least), unary(api.OpNegate, 0, 3)}},
		{returns(1), []api.Instr{unary(api.OpNot, 0, 3)}},
		{returns(0), []api.Instr{constant(0, 9), unary(api.OpNot, 0, 0)}},
		{returns(5), []api.Instr{constant(1, 2), constant(2, 3), binary(api.OpAdd, 0, 1, 2)}},
		{returns(-1), []api.Instr{constant(1, 2), constant(2, 3), binary(api.OpSubtract, 0, 1, 2)}},
		{returns(6), []api.Instr{constant(1, 2), constant(2, 3), binary(api.OpMultiply, 0, 1, 2)}},
		{returns(-3), []api.Instr{constant(1, -7), constant(2, 2), binary(api.OpDivide, 0, 1, 2)}},
		{returns(-1), []api.Instr{constant(1, -7), constant(2, 2), binary(api.OpModulo, 0, 1, 2)}},
		{returns(1), []api.Instr{constant(1, 2), constant(2, 3), binary(api.OpLess, 0, 1, 2)}},
		{returns(0), []api.Instr{constant(1, 3), constant(2, 3), binary(api.OpLess, 0, 1, 2)}},
		{returns(1), []api.Instr{constant(1, 3), constant(2, 3), binary(api.OpAtMost, 0, 1, 2)}},
		{returns(1), []api.Instr{constant(1, 3), constant(2, 3), binary(api.OpEqual, 0, 1, 2)}},
		{returns(1), []api.Instr{constant(1, 3), binary(api.OpUnequal, 0, 1, 2)}},
		{returns(least), []api.Instr{constant(1, greatest), constant(2, 1), binary(api.OpAdd, 0, 1, 2)}},
		{returns(least), []api.Instr{constant(1, least), constant(2, -1), binary(api.OpDivide, 0, 1, 2)}},
		{trapped(api.TrapDivide), []api.Instr{constant(1, 5), binary(api.OpDivide, 0, 1, 2), show(1)}},
		{trapped(api.TrapDivide, 5), []api.Instr{constant(1, 5), show(1), binary(api.OpModulo, 0, 1, 2), show(1)}},
		{returns(0), []api.Instr{load(0, 0)}},
		{returns(4), []api.Instr{constant(1, 4), store(1, 0), load(0, 0)}},
		{returns(0), []api.Instr{constant(2, 2), element(0, 2, 2)}},
		{returns(8), []api.Instr{constant(1, 8), constant(2, 2), set(2, 1, 2), element(0, 2, 2)}},
		{returns(0), []api.Instr{constant(1, 8), constant(2, 2), set(2, 1, 2), element(0, 3, 2)}},
		{returns(0), []api.Instr{constant(1, 8), set(3, 1, 2), element(0, 3, 1)}},
		{returns(0), []api.Instr{constant(1, 8), set(3, 1, 1), load(0, 0)}},
		{returns(8), []api.Instr{constant(1, 8), set(3, 1, 1), element(0, 3, 1)}},
		{trapped(api.TrapIndex), []api.Instr{constant(2, 3), element(0, 2, 2), show(1)}},
		{trapped(api.TrapIndex), []api.Instr{constant(2, 1), element(0, 2, 1)}},
		{trapped(api.TrapIndex), []api.Instr{constant(2, -1), element(0, 2, 2)}},
		{trapped(api.TrapIndex), []api.Instr{constant(2, least), element(0, 2, 2)}},
		{trapped(api.TrapIndex), []api.Instr{constant(2, greatest), set(2, 1, 2)}},
		{trapped(api.TrapIndex, 0), []api.Instr{show(1), constant(2, 3), set(2, 1, 2), show(1)}},
		{trapped(api.TrapIndex), []api.Instr{constant(2, -1), set(2, 1, 1)}},
		{returns(9), []api.Instr{read(0)}},
		{returns(-8), []api.Instr{read(0), read(0)}},
		{returns(0, 9, -8, 0, 0), []api.Instr{read(0), show(0), read(0), show(0), read(0), show(0), read(0), show(0)}},
		{returns(0), []api.Instr{constant(0, 5), read(1), read(1), read(0)}},
		{returns(0, 3, 3), []api.Instr{constant(1, 3), show(1), show(1)}},
		{returns(0), []api.Instr{constant(0, 5), {Kind: api.InstrFunc, Dst: 0}}},
		{returns(1), []api.Instr{{Kind: api.InstrFunc, Dst: 0, Value: 1}}},
		{returns(0), []api.Instr{count(2)}},
	} {
		p := program(function(0, 4, block(give(0), x.instrs...)), function(0, 1, block(give(0))))
		if o := outcome(t, p, 9, -8); fmt.Sprint(o) != fmt.Sprint(x.want) {
			t.Errorf("%d: %v, not %v", i, o, x.want)
		}
	}
}

// TestKnownRun has all kinds of fetches, with all addresses.
func TestKnownRun(t *testing.T) {
	p := program(
		function(0, 3, block(branch(0, 0, 1), read(0)), block(give(2), call(1, 1, 0, 1), api.Instr{Kind: api.InstrFunc, Dst: 0, Value: 2}, callOf(2, 0))),
		function(2, 3, block(leap(2), count(1)), block(give(2)), block(branch(0, 1, 2), constant(0, 1))),
		function(0, 1, block(give(0), count(2), count(2), read(0))),
	)
	m := linked(t, p, api.Layout{Funcs: []int{2, 0, 1}, Blocks: [][]int{{0, 1}, {0, 1, 2}, {0}}})
	// 0: count, 3: count, 6: read, 8: return; 10: read, 12: if, 15: call, 24: func, 27: call of a value, 31: return; 33: count, 36: jump, 38: return, 40: const, 50: if, 53: jump
	if !slices.Equal(m.Entries, []int{10, 33, 0}) || len(m.Code) != 55 {
		t.Fatalf("%v", m)
	}
	ahead := [][3]int{{10, 2, 0}, {12, 3, 1}, {10, 2, 0}, {12, 3, 2}, {15, 9, 3}, {33, 3, 0}, {36, 2, 0}, {40, 10, 0}, {50, 3, 1}, {38, 2, 4}, {24, 3, 0}, {27, 4, 5}, {0, 3, 0}, {3, 3, 0}, {6, 2, 0}, {8, 2, 4}, {31, 2, 4}}
	whole := result{returns(6), 17 + 7, fetches(ahead...), []int{0, 1, 2}, nil}
	input := []int{5, 0, 6}
	isRun(t, m, input, enough, whole)
	isRun(t, m, input, api.Limit{Steps: 24, Depth: 2}, whole)
	for _, x := range []struct {
		limit, steps, fetches int
		last                  int // the kind of the last fetch, if it is another one
		counters, stack       []int
	}{
		{23, 23, 16, 4, []int{0, 1, 2}, []int{27}},
		{22, 22, 15, 0, []int{0, 1, 2}, []int{6, 31}},
		{20, 20, 13, 0, []int{0, 1, 1}, []int{0, 31}},
		{19, 19, 12, 5, []int{0, 1, 0}, []int{0, 31}},
		{18, 18, 12, 0, []int{0, 1, 0}, []int{27}},
		{17, 17, 11, 0, []int{0, 1, 0}, []int{24}},
		{16, 16, 10, 4, []int{0, 1, 0}, []int{15}},
		{15, 15, 9, 1, []int{0, 1, 0}, []int{50, 24}},
		{12, 12, 6, 0, []int{0, 1, 0}, []int{33, 24}},
		{11, 11, 5, 3, []int{0, 0, 0}, []int{33, 24}},
		{10, 8, 5, 0, []int{0, 0, 0}, []int{15}},
		{9, 8, 5, 0, []int{0, 0, 0}, []int{15}},
		{8, 8, 5, 0, []int{0, 0, 0}, []int{15}},
		{7, 7, 4, 2, []int{0, 0, 0}, []int{12}},
		{5, 5, 2, 1, []int{0, 0, 0}, []int{12}},
		{4, 4, 1, 0, []int{0, 0, 0}, []int{10}},
		{3, 3, 0, 0, []int{0, 0, 0}, []int{10}},
		{2, 0, 0, 0, []int{0, 0, 0}, nil},
		{0, 0, 0, 0, []int{0, 0, 0}, nil},
		{-1, 0, 0, 0, []int{0, 0, 0}, nil},
		{least, 0, 0, 0, []int{0, 0, 0}, nil},
	} {
		l := fetches(ahead[:x.fetches]...)
		if len(l) > 0 {
			l[len(l)-1].Kind = x.last
		}
		isRun(t, m, input, api.Limit{Steps: x.limit, Depth: 2}, result{exhausted(), x.steps, l, x.counters, x.stack})
	}
	// the depth does not suffice for the first call
	shallow := fetches(ahead[:5]...)
	shallow[4].Kind = 0
	isRun(t, m, input, api.Limit{Steps: 24, Depth: 1}, result{exhausted(), 8, shallow, []int{0, 0, 0}, []int{15}})
	for _, depth := range []int{0, -1, least} {
		isRun(t, m, input, api.Limit{Steps: 24, Depth: depth}, result{exhausted(), 0, nil, []int{0, 0, 0}, nil})
	}
}

// TestJumps has both ways of branches where both are code, and where one of them, or both, are what comes next.
func TestJumps(t *testing.T) {
	p := program(function(0, 2, block(branch(0, 1, 2), read(0)), block(give(1), constant(1, 10)), block(give(1), constant(1, 20))))
	// 0: read, 2: branch, and behind it a constant of 10 bytes and a return
	for _, x := range []struct {
		order   []int
		yes, no []api.Fetch
	}{
		{[]int{0, 1, 2}, fetches([3]int{0, 2, 0}, [3]int{2, 3, 2}, [3]int{5, 10, 0}, [3]int{15, 2, 4}), fetches([3]int{0, 2, 0}, [3]int{2, 3, 1}, [3]int{17, 10, 0}, [3]int{27, 2, 4})},
		{[]int{0, 2, 1}, fetches([3]int{0, 2, 0}, [3]int{2, 3, 1}, [3]int{17, 10, 0}, [3]int{27, 2, 4}), fetches([3]int{0, 2, 0}, [3]int{2, 3, 2}, [3]int{5, 10, 0}, [3]int{15, 2, 4})},
	} {
		m := linked(t, p, api.Layout{Funcs: []int{0}, Blocks: [][]int{x.order}})
		for _, yes := range []int{1, -1, 2, greatest, least, 1 << 32} {
			isRun(t, m, []int{yes}, enough, result{returns(10), 6, x.yes, []int{0, 0, 0}, nil})
		}
		isRun(t, m, nil, enough, result{returns(20), 6, x.no, []int{0, 0, 0}, nil})
	}
}

// TestJumpsOfNothing has branches that lead on to what comes next in both cases: what they say is whether they jump.
func TestJumpsOfNothing(t *testing.T) {
	p := program(function(0, 1, block(branch(0, 1, 2), read(0)), block(leap(2)), block(give(0))))
	for _, x := range []struct {
		order   []int
		yes, no int
	}{{[]int{0, 1, 2}, 2, 1}, {[]int{0, 2, 1}, 1, 2}} {
		m := linked(t, p, api.Layout{Funcs: []int{0}, Blocks: [][]int{x.order}})
		want := fetches([3]int{0, 2, 0}, [3]int{2, 3, x.no}, [3]int{5, 2, 4})
		isRun(t, m, nil, enough, result{returns(0), 4, want, []int{0, 0, 0}, nil})
		want[1].Kind = x.yes
		if x.order[1] == 2 {
			want = slices.Insert(want, 2, api.Fetch{Address: 7, Size: 2})
			isRun(t, m, []int{3}, enough, result{returns(3), 5, want, []int{0, 0, 0}, nil})
			continue
		}
		isRun(t, m, []int{3}, enough, result{returns(3), 4, want, []int{0, 0, 0}, nil})
	}
	// If, and behind it a jump of nothing
	p.Funcs[0].Blocks = []api.Block{block(branch(0, 1, 2), read(0)), block(give(0)), block(leap(1))}
	m := linked(t, p, api.Layout{Funcs: []int{0}, Blocks: [][]int{{0, 2, 1}}})
	isRun(t, m, []int{3}, enough, result{returns(3), 4, fetches([3]int{0, 2, 0}, [3]int{2, 3, 1}, [3]int{5, 2, 4}), []int{0, 0, 0}, nil})
	isRun(t, m, nil, enough, result{returns(0), 4, fetches([3]int{0, 2, 0}, [3]int{2, 3, 2}, [3]int{5, 2, 4}), []int{0, 0, 0}, nil})
}

// TestLongJumps has Wide jumps, there and back.
func TestLongJumps(t *testing.T) {
	var many []api.Instr
	for i := range 30 {
		many = append(many, constant(1, i))
	}
	p := program(function(0, 2, block(branch(0, 2, 1), read(0)), block(leap(3), many...), block(leap(1), show(0)), block(branch(0, 4, 0), read(0)), block(give(1))))
	m := linked(t, p, api.Layout{Funcs: []int{0}, Blocks: [][]int{{0, 1, 2, 3, 4}}})
	// 0: read, 2: Wide If, 8: constants, 308: jump, 310: print, 312: Wide jump, 317: read, 319: If, 322: Wide jump
	_, starts, _ := selecting.Select(p.Funcs[0], []int{0, 1, 2, 3, 4})
	if !slices.Equal(starts, []int{0, 8, 310, 317, 325}) {
		t.Fatalf("%v", starts)
	}
	var constants []api.Fetch
	for i := range 30 {
		constants = append(constants, api.Fetch{Address: 8 + 10*i, Size: 10})
	}
	want := slices.Concat(
		fetches([3]int{0, 2, 0}, [3]int{2, 6, 1}, [3]int{310, 2, 0}, [3]int{312, 5, 0}), constants, fetches([3]int{308, 2, 0}, [3]int{317, 2, 0}, [3]int{319, 6, 1}),
		fetches([3]int{0, 2, 0}, [3]int{2, 6, 2}), constants, fetches([3]int{308, 2, 0}, [3]int{317, 2, 0}, [3]int{319, 6, 2}, [3]int{325, 2, 4}),
	)
	isRun(t, m, []int{7, 0, 0, 5}, enough, result{returns(29, 7), 2 + len(want), want, []int{0, 0, 0}, nil})
}

// TestEndlessJump has a jump to itself, of a function that has no slots.
func TestEndlessJump(t *testing.T) {
	m := image(t, program(function(0, 0, block(leap(0)))))
	isRun(t, m, nil, api.Limit{Steps: 3, Depth: 1}, result{exhausted(), 3, fetches([3]int{0, 2, 0}, [3]int{0, 2, 0}, [3]int{0, 2, 0}), []int{0, 0, 0}, []int{0}})
	isRun(t, m, nil, api.Limit{Steps: 0, Depth: 1}, result{exhausted(), 0, nil, []int{0, 0, 0}, []int{0}})
	isRun(t, m, nil, api.Limit{Steps: 0, Depth: 0}, result{exhausted(), 0, nil, []int{0, 0, 0}, nil})
}
