package interpret

import (
	"fmt"
	"math"
	"testing"

	"warmpath/api"
	"warmpath/evaluate"
)

// TestExample has a program that returns at once.
func TestExample(t *testing.T) {
	for regs := 1; regs <= api.MaxRegs; regs++ {
		p := program(of(0, regs, block(give(regs-1))))
		isRun(t, p, nil, ample, api.Run{Outcome: returned(0), Counts: counts(counted(1, []int{1}, [][2]int{{}})), Steps: 1 + regs})
	}
	ends(t, program(of(0, 3, block(give(2), constant(2, 7), read(1)))), nil, ample, returned(7), 3+2+1)
}

func TestInstructions(t *testing.T) {
	const over = 4 + 1 // steps of entering, and of the end
	gives(t, returned(0), over)
	gives(t, returned(9), over+1, constant(0, 9))
	gives(t, returned(least), over+1, constant(0, least))
	gives(t, returned(9), over+2, constant(1, 9), move(0, 1))
	gives(t, returned(-9), over+2, constant(1, 9), unary(0, api.OpNegate, 1))
	gives(t, returned(0), over+2, constant(1, 9), unary(0, api.OpNot, 1))
	gives(t, returned(1), over+1, unary(0, api.OpNot, 1))
	gives(t, returned(-3), over+3, constant(1, 9), constant(2, 12), binary(0, 1, api.OpSubtract, 2))
	gives(t, returned(0), over+1, load(0, 2))
	gives(t, returned(9), over+3, constant(3, 9), store(2, 3), load(0, 2))
	gives(t, returned(0), over+3, constant(3, 9), store(0, 3), load(0, 2))
	gives(t, returned(0), over+1, element(0, 1, 3))
	gives(t, returned(9), over+4, constant(3, 1), constant(2, 9), set(1, 3, 2), element(0, 1, 3))
	gives(t, returned(0), over+5, constant(3, 1), constant(2, 9), set(1, 3, 2), constant(3, 0), element(0, 1, 3))
	gives(t, returned(0), over+5, constant(2, 9), set(1, 3, 2), constant(3, 0), element(0, 3, 3), element(0, 3, 3))
	gives(t, returned(5), over+1, read(0))
	gives(t, returned(-6), over+2, read(0), read(0))
	gives(t, returned(0), over+4, read(0), read(0), constant(0, 3), read(0))
	gives(t, returned(0, 5, 5, 0), over+4, read(1), printed(1), printed(1), printed(0))
	gives(t, returned(0), over+3, count(0), count(0), count(0))
	gives(t, returned(0), over+2, constant(0, 3), function(0, 0))
	gives(t, returned(5), over+4, read(1), constant(1, 5), constant(2, 6), move(0, 1))
}

func TestTraps(t *testing.T) {
	const enter = 4
	gives(t, trapped(api.TrapDivide), enter+1, binary(0, 1, api.OpDivide, 2), printed(0))
	gives(t, trapped(api.TrapDivide, 0), enter+2, printed(0), binary(0, 1, api.OpModulo, 2))
	for _, index := range []int{-1, 2, 3, api.MaxArray, least, greatest} {
		gives(t, trapped(api.TrapIndex), enter+2, constant(1, index), element(0, 1, 1), printed(0))
		gives(t, trapped(api.TrapIndex), enter+2, constant(1, index), set(1, 1, 0), printed(0))
	}
	gives(t, trapped(api.TrapIndex), enter+2, constant(1, 1), element(0, 3, 1))
	gives(t, trapped(api.TrapIndex), enter+2, constant(1, 1), set(3, 1, 0))
	gives(t, returned(0), enter+3, constant(1, 1), element(0, 1, 1))
	gives(t, trapped(api.TrapValue), enter+2, constant(1, 1), callOf(0, 1), printed(0))
	gives(t, trapped(api.TrapValue), enter+1, callOf(0, 1, 2), printed(0))
}

// TestOperations compares all operations with those of evaluate.
func TestOperations(t *testing.T) {
	numbers := []int{0, 1, -1, 2, -3, 7, least, greatest}
	for _, a := range numbers {
		for op := api.OpNegate; op <= api.OpNot; op++ {
			gives(t, returned(evaluate.Unary(op, a)), 4+3, constant(3, a), unary(0, op, 3))
		}
		for _, b := range numbers {
			for op := api.OpAdd; op <= api.OpUnequal; op++ {
				value, defined := evaluate.Apply(op, a, b)
				l := []api.Instr{constant(3, a), constant(2, b), constant(0, 77), binary(0, 3, op, 2)}
				if defined {
					gives(t, returned(value), 4+5, l...)
				} else {
					gives(t, trapped(api.TrapDivide), 4+4, l...)
				}
			}
		}
	}
}

// TestCalls has calls with arguments in any registers, of functions whose registers are 0 each time.
func TestCalls(t *testing.T) {
	main := of(0, 4, block(give(2), constant(1, 10), constant(3, 20), call(0, 1, 3, 1, 3), printed(0), call(2, 1, 1, 1, 2), printed(1), printed(3)))
	f := of(3, 5, block(give(3), printed(0), printed(1), printed(2), printed(3), printed(4), constant(4, 5), constant(2, 6), binary(3, 0, api.OpSubtract, 1)))
	isRun(t, program(main, f), nil, ample, api.Run{
		Outcome: returned(0, 20, 10, 20, 0, 0, 10, 10, 10, 0, 0, 0, 10, 20),
		Counts:  counts(counted(1, []int{1}, [][2]int{{}}), counted(2, []int{2}, [][2]int{{}})),
		Steps:   4 + 8 + 2*(5+9),
	})
	// a result in a register that is an argument, too, and one register for all arguments
	main = of(0, 1, block(give(0), constant(0, 4), call(0, 1, 0, 0), printed(0), call(0, 1, 0, 0)))
	f = of(2, 2, block(give(0), binary(0, 0, api.OpMultiply, 1), constant(1, 9)))
	ends(t, program(main, f), nil, ample, returned(256, 16), 1+5+2*(2+3))
	// globals belong to all functions, the input is read by all
	main = of(0, 1, block(give(0), read(0), store(0, 0), call(0, 1), load(0, 0)))
	f = of(0, 2, block(give(1), load(0, 0), printed(0), read(0), store(0, 0)))
	p := program(main, f)
	p.Globals = []api.Global{{}}
	ends(t, p, []int{3, 8, 9}, ample, returned(8, 3), 1+5+2+5)
}

// TestFunctionValues calls each function with each number of arguments.
func TestFunctionValues(t *testing.T) {
	for callable := range 5 {
		for number := -2; number < 6; number++ {
			for args := range 4 {
				p := program(of(0, 3, block(give(2), constant(0, number), constant(1, 7), callOf(2, 0, []int{1, 1, 1}[:args]...))), of(1, 2, block(give(0))), of(0, 1, block(give(0), constant(0, 8))), of(2, 4, block(give(1))))
				p.Callable = callable
				want := trapped(api.TrapValue)
				steps := 3 + 3
				if callable > number && number > 0 && args == []int{0, 1, 0, 2}[number] {
					want = returned([]int{0, 7, 8, 7}[number])
					steps += []int{0, 2 + 1, 1 + 2, 4 + 1}[number] + 1
				}
				if callable > 0 && number == 0 && args == 0 {
					continue // it calls itself
				}
				ends(t, p, nil, ample, want, steps)
			}
		}
	}
	for _, number := range []int{least, greatest, 1 << 32, -1 << 32, 1<<32 + 1} {
		p := program(of(0, 3, block(give(2), constant(0, number), callOf(2, 0))), of(0, 1, block(give(0))))
		ends(t, p, nil, ample, trapped(api.TrapValue), 3+2)
	}
}

// TestFunctionNumbers has numbers of functions that are printed, and called.
func TestFunctionNumbers(t *testing.T) {
	p := program(of(0, 2, block(give(1), function(0, 2), printed(0), callOf(1, 0), function(0, 1), printed(0), callOf(0, 0), printed(0), printed(1))), of(0, 1, block(give(0), constant(0, 10))), of(0, 1, block(give(0), constant(0, 20))), of(0, 1, block(give(0))))
	p.Callable = 3
	isRun(t, p, nil, ample, api.Run{
		Outcome: returned(20, 2, 1, 10, 20),
		Counts: counts(
			counted(1, []int{1}, [][2]int{{}}, site(0, 2, 2, 1), site(0, 5, 1, 1)),
			counted(1, []int{1}, [][2]int{{}}), counted(1, []int{1}, [][2]int{{}}), counted(0, []int{0}, [][2]int{{}}),
		),
		Steps: 2 + 9 + 2*3,
	})
}

// TestEnds has branches to two blocks, to one block, and to themselves.
func TestEnds(t *testing.T) {
	for input, edges := range map[int][2]int{0: {0, 1}, 1: {1, 0}, -1: {1, 0}, least: {1, 0}} {
		p := program(of(0, 1, block(branch(0, 1, 1), read(0)), block(give(0))))
		isRun(t, p, []int{input}, ample, api.Run{Outcome: returned(input), Counts: counts(counted(1, []int{1, 1}, [][2]int{edges, {}})), Steps: 4})
		p = program(of(0, 1, block(branch(0, 2, 1), read(0)), block(give(0)), block(give(0))))
		isRun(t, p, []int{input}, ample, api.Run{Outcome: returned(input), Counts: counts(counted(1, []int{1, edges[1], edges[0]}, [][2]int{edges, {}, {}})), Steps: 4})
	}
	p := program(of(0, 1, block(branch(0, 0, 1), read(0)), block(branch(0, 0, 2), read(0)), block(give(0), printed(0))))
	isRun(t, p, []int{1, 1, 0, 1, 3, 0, 0, 5}, ample, api.Run{Outcome: returned(0, 0), Counts: counts(counted(1, []int{5, 2, 1}, [][2]int{{3, 2}, {1, 1}, {}})), Steps: 1 + 2*5 + 2*2 + 2})
	// what a kind does not use does not matter
	p = program(of(0, 1, api.Block{Term: api.Term{Kind: api.TermJump, A: 99, To: 1, Else: 99}}, api.Block{Term: api.Term{Kind: api.TermReturn, To: -5, Else: 77}}))
	isRun(t, p, nil, ample, api.Run{Outcome: returned(0), Counts: counts(counted(1, []int{1, 1}, [][2]int{{1, 0}, {}})), Steps: 3})
}

func TestCounters(t *testing.T) {
	p := program(of(0, 2, block(jump(1), count(3)), block(branch(0, 1, 2), count(0), call(1, 1), read(0)), block(give(0), count(3))), of(0, 1, block(give(0), count(2), count(2))))
	p.Counters = 5
	isRun(t, p, []int{1, 1}, ample, api.Run{
		Outcome:  returned(0),
		Counts:   counts(counted(1, []int{1, 3, 1}, [][2]int{{1, 0}, {2, 1}, {}}), counted(3, []int{3}, [][2]int{{}})),
		Steps:    2 + 2 + 3*(4+1+3) + 2,
		Counters: []int{3, 0, 6, 2, 0},
	})
	// counters are there although the run never began
	for _, n := range []int{0, 1, api.MaxCounters} {
		p = program(of(0, 1, block(give(0))))
		p.Counters = n
		isRun(t, p, nil, api.Limit{Steps: 100}, api.Run{Outcome: exhausted(), Counts: counts(counted(0, []int{0}, [][2]int{{}})), Counters: make([]int, n)})
	}
}

// TestSites has sites in several functions and blocks, which are not reached in their order.
func TestSites(t *testing.T) {
	main := of(0, 2,
		block(jump(2), call(1, 2)),
		block(give(1), function(0, 2), callOf(1, 0), callOf(1, 0), constant(0, 1), callOf(1, 0, 0)),
		block(branch(0, 3, 1), read(0), callOf(1, 0, 1), read(0)),
		block(jump(2)),
	)
	one := of(1, 1, block(give(0)))
	none := of(0, 2, block(give(1), constant(0, 3), callOf(1, 0, 0)))
	same := of(1, 2, block(give(1), constant(1, 5)))
	isRun(t, program(main, one, none, same), []int{3, 1, 1, 1, 3, 1, 3, 0}, ample, api.Run{
		Outcome: returned(1),
		Counts: counts(
			counted(1, []int{1, 1, 4, 3}, [][2]int{{1, 0}, {}, {3, 1}, {3, 0}}, site(1, 1, 2, 1), site(1, 2, 2, 1), site(1, 4, 1, 1), site(2, 1, 1, 1, 3, 3)),
			counted(2, []int{2}, [][2]int{{}}),
			counted(3, []int{3}, [][2]int{{}}, site(0, 1, 3, 3)),
			counted(6, []int{6}, [][2]int{{}}),
		),
		Steps: 2 + 2 + 4*4 + 3 + 6 + 2*(1+1) + 3*(2+3) + 6*(2+2),
	})
}

// TestStop has runs that end in several functions and blocks.
func TestStop(t *testing.T) {
	main := of(0, 1, block(jump(1), call(0, 2)), block(give(0), constant(0, 2), call(0, 1, 0), printed(0)))
	f := of(1, 3, block(branch(0, 1, 2), constant(2, -1)), block(give(1), binary(0, 0, api.OpAdd, 2), call(1, 1, 0)), block(give(1), binary(1, 0, api.OpDivide, 1)))
	g := of(0, 1, block(give(0)))
	want := api.Run{
		Outcome: trapped(api.TrapDivide),
		Counts:  counts(counted(1, []int{1, 1}, [][2]int{{1, 0}, {}}), counted(3, []int{3, 2, 1}, [][2]int{{2, 1}, {}, {}}), counted(1, []int{1}, [][2]int{{}})),
		Steps:   1 + 2 + 2 + 2 + 3*3 + 2*(2+2) + 2 + 1,
		Stop:    []api.Spot{{Func: 1, Block: 2}, {Func: 1, Block: 1}, {Func: 1, Block: 1}, {Func: 0, Block: 1}},
	}
	isRun(t, program(main, f, g), nil, ample, want)
	want.Outcome = exhausted()
	want.Steps--
	isRun(t, program(main, f, g), nil, api.Limit{Steps: want.Steps, Depth: 4}, want)
}

// TestLowered compares runs of sources with those of what they become.
func TestLowered(t *testing.T) {
	const text = "global g; global a[2]; func main() { call start(); var i = 0; while i < read { i = i + 1; } print i; return fib(i) + (&fib)(3) + a[i % 3]; } func start() { a[1] = 100; g = 5; } func fib(n) { if n < 2 || !g { return n; } return fib(n - 1) + fib(n - 2); }"
	for _, n := range []int{-3, 0, 1, 2, 4, 10} {
		input := []int{n, n, n, n, n, n, n, n, n, n, n, n}
		p := resolved(t, text)
		want, steps := evaluate.Run(p, input, ample)
		got := Run(lowered(t, text), input, api.Limit{Steps: api.Factor*steps + api.Factor, Depth: ample.Depth})
		if fmt.Sprint(want) != fmt.Sprint(got.Outcome) || want.Kind == api.Exhausted {
			t.Errorf("%d: %v, not %v", n, got.Outcome, want)
		}
	}
	isRun(t, lowered(t, "func main() { if read { print 1; } return 2; }"), []int{4}, ample, api.Run{
		Outcome: returned(2, 1), Counts: counts(counted(1, []int{1, 1, 1}, [][2]int{{1, 0}, {1, 0}, {}})), Steps: 1 + 2 + 3 + 2,
	})
}

// TestLongRuns takes 14 steps a round.
func TestLongRuns(t *testing.T) {
	const rounds = 1000000
	p := program(
		of(0, 4, block(jump(1), constant(1, rounds), constant(2, 1)), block(branch(3, 2, 3), binary(3, 0, api.OpLess, 1)), block(jump(1), callOf(3, 2, 0), count(0), binary(0, 0, api.OpAdd, 2)), block(give(0))),
		of(1, 3, block(branch(1, 1, 2), constant(2, 2), binary(1, 0, api.OpModulo, 2)), block(jump(2), count(1)), block(give(0))),
	)
	p.Counters = 2
	isRun(t, p, nil, api.Limit{Steps: math.MaxInt, Depth: 2}, api.Run{
		Outcome: returned(rounds),
		Counts: counts(
			counted(1, []int{1, rounds + 1, rounds, 1}, [][2]int{{1, 0}, {rounds, 1}, {rounds, 0}, {}}, site(2, 0, 1, rounds)),
			counted(rounds, []int{rounds, rounds / 2, rounds}, [][2]int{{rounds / 2, rounds / 2}, {rounds / 2, 0}, {}}),
		),
		Steps:    4 + 3 + (rounds+1)*2 + rounds*4 + 1 + rounds*(3+3+1) + rounds/2*2,
		Counters: []int{rounds, rounds / 2},
	})
}
