package evaluate

import (
	"math"
	"strconv"
	"strings"
	"testing"

	"warmpath/api"
)

// counted is the numbers from 1 to n.
func counted(n int) (l []int) {
	for i := range n {
		l = append(l, i+1)
	}
	return l
}

func TestSteps(t *testing.T) {
	const text = "func main() { print 1; if 1 { print f(2); } return 3; } func f(x) { return x; }"
	for steps, output := range [][]int{nil, nil, {1}, {1}, {1}, {1}, {1}, {1}, {1}, {1, 2}, {1, 2}} {
		isRun(t, text, nil, api.Limit{Steps: steps, Depth: 2}, exhausted(output...), steps)
	}
	for _, steps := range []int{11, 12, 1000, api.MaxSteps, api.MaxSteps + 1, math.MaxInt} {
		isRun(t, text, nil, api.Limit{Steps: steps, Depth: 2}, returned(3, 1, 2), 11)
	}
	for _, steps := range []int{-1, -1000, -api.MaxSteps, math.MinInt} {
		isRun(t, text, nil, api.Limit{Steps: steps, Depth: 2}, exhausted(), 0)
	}
}

// TestStepsOfLoops cuts a loop off at each of its steps, of which one is that of the condition that is evaluated again.
func TestStepsOfLoops(t *testing.T) {
	const text = "global g; func main() { while read { print g; g = g + 1; } return g; }"
	input := []int{5, 4}
	for steps, printed := range []int{0, 0, 0, 0, 1, 1, 1, 1, 1, 1, 1, 1, 2, 2, 2, 2, 2, 2, 2, 2} {
		l := api.Limit{Steps: steps, Depth: 1}
		if steps < 20 {
			isRun(t, text, input, l, exhausted([]int{0, 1}[:printed]...), steps)
		}
	}
	isRun(t, text, input, api.Limit{Steps: 20, Depth: 1}, returned(2, 0, 1), 20)
	isRun(t, text, input, api.Limit{Steps: 19, Depth: 1}, exhausted(0, 1), 19)
	isRun(t, "func main() { while 1 { } }", nil, api.Limit{Steps: 1001, Depth: 1}, exhausted(), 1001)
	isRun(t, "func main() { while 1 { } }", nil, api.Limit{Steps: 1000, Depth: 1}, exhausted(), 1000)
}

// TestGreatestLimit looks at the limit itself: no test can take so many steps.
func TestGreatestLimit(t *testing.T) {
	for l, want := range map[api.Limit]api.Limit{
		{Steps: 5, Depth: 6}:                               {Steps: 5, Depth: 6},
		{Steps: api.MaxSteps, Depth: api.MaxDepth}:         {Steps: api.MaxSteps, Depth: api.MaxDepth},
		{Steps: api.MaxSteps + 1, Depth: api.MaxDepth - 1}: {Steps: api.MaxSteps, Depth: api.MaxDepth - 1},
		{Steps: api.MaxSteps - 1, Depth: api.MaxDepth + 1}: {Steps: api.MaxSteps - 1, Depth: api.MaxDepth},
		{Steps: math.MaxInt, Depth: math.MaxInt}:           {Steps: api.MaxSteps, Depth: api.MaxDepth},
	} {
		if got := within(l); got != want {
			t.Errorf("%v: %v, not %v", l, got, want)
		}
	}
}

func TestNoSteps(t *testing.T) {
	for _, steps := range []int{math.MinInt, -1, 0} {
		for _, depth := range []int{1, 2, api.MaxDepth, math.MaxInt} {
			l := api.Limit{Steps: steps, Depth: depth}
			isRun(t, "func main() { }", nil, l, returned(0), 0)
			isRun(t, "global g; func main() { } func f() { return 1; }", []int{5}, l, returned(0), 0)
			isRun(t, "func main() { return 5; }", nil, l, exhausted(), 0)
			isRun(t, "func main() { while 0 { } }", nil, l, exhausted(), 0)
		}
		for _, depth := range []int{math.MinInt, -1, 0} {
			isRun(t, "func main() { }", nil, api.Limit{Steps: steps, Depth: depth}, exhausted(), 0)
		}
	}
}

func TestNoDepth(t *testing.T) {
	for _, depth := range []int{math.MinInt, -api.MaxDepth, -1, 0} {
		for _, text := range []string{"func main() { }", "func main() { print 1; return 2; }", "func main() { return 1 / 0; }"} {
			isRun(t, text, []int{1}, api.Limit{Steps: 100, Depth: depth}, exhausted(), 0)
		}
	}
}

// TestDepth calls a function that takes 10 steps up to its next call, 11 with this one, and 6 without one.
func TestDepth(t *testing.T) {
	const text = "func main() { print 0; return f(read); } func f(n) { print n; if n { return f(n - 1) + 1; } return 0; }"
	for most := range 8 {
		for n := range 8 {
			l := api.Limit{Steps: 1000, Depth: most}
			output := []int{0}
			for depth := 2; depth <= min(most, n+2); depth++ {
				output = append(output, n+2-depth)
			}
			switch {
			case most == 0:
				isRun(t, text, []int{n}, l, exhausted(), 0)
			case most < n+2:
				isRun(t, text, []int{n}, l, exhausted(output...), 5+10*(most-1))
			default:
				isRun(t, text, []int{n}, l, returned(n, output...), 5+11*n+6)
			}
		}
	}
}

// TestGreatestDepth calls a function that takes 9 steps up to its next call, 10 with this one, and 4 without one.
func TestGreatestDepth(t *testing.T) {
	const text = "func main() { return f(read); } func f(n) { if n { return &f(n - 1) + 1; } return 0; }"
	for _, depth := range []int{api.MaxDepth, api.MaxDepth + 1, 1 << 20, math.MaxInt} {
		l := api.Limit{Steps: math.MaxInt, Depth: depth}
		isRun(t, text, []int{api.MaxDepth - 2}, l, returned(api.MaxDepth-2), 3+10*(api.MaxDepth-2)+4)
		isRun(t, text, []int{api.MaxDepth - 1}, l, exhausted(), 3+9*(api.MaxDepth-1))
		isRun(t, text, []int{-1}, l, exhausted(), 3+9*(api.MaxDepth-1))
		isRun(t, "func main() { return main() + 1; }", nil, l, exhausted(), 3*api.MaxDepth)
	}
	l := api.Limit{Steps: math.MaxInt, Depth: api.MaxDepth - 1}
	isRun(t, text, []int{api.MaxDepth - 2}, l, exhausted(), 3+9*(api.MaxDepth-2))
	isRun(t, text, []int{api.MaxDepth - 3}, l, returned(api.MaxDepth-3), 3+10*(api.MaxDepth-3)+4)
}

// TestDepthIsGivenBack calls many functions, one behind the other.
func TestDepthIsGivenBack(t *testing.T) {
	isRun(t, "func main() { var i = 0; while i < 1000 { i = i + f(0) + &f(0); } return i; } func f(x) { while 1 { if 1 { return 1 + x; } } }", nil, api.Limit{Steps: 1 << 20, Depth: 2}, returned(1000), 6+500*(9+2*8+4)+2)
}

// TestCallsAtTheGreatestDepth shows what comes first, when there are several reasons to end.
func TestCallsAtTheGreatestDepth(t *testing.T) {
	l := api.Limit{Steps: 1000, Depth: 1}
	const f = " func f(x) { print x; }"
	isRun(t, "func main() { return f(1 + 2); }"+f, nil, l, exhausted(), 5)
	isRun(t, "func main() { return &f(1 + 2); }"+f, nil, l, exhausted(), 6)
	isRun(t, "func main() { return f(1 / 0); }"+f, nil, l, trapped(api.TrapDivide), 5)
	isRun(t, "func main() { return &f(1, 2); }"+f, nil, l, trapped(api.TrapValue), 5)
	isRun(t, "func main() { return 7(1); }"+f, nil, l, trapped(api.TrapValue), 4)
	isRun(t, "func main() { print 1; if 0 && f(1) { } print 2; }"+f, nil, l, returned(0, 1, 2), 7)
	isRun(t, "func main() { return f(1 + 2); }"+f, nil, api.Limit{Steps: 4, Depth: 1}, exhausted(), 4)
	isRun(t, "func main() { return f(1 + 2); }"+f, nil, api.Limit{Steps: 5, Depth: 2}, exhausted(), 5)
	isRun(t, "func main() { return 1 / 0; }", nil, api.Limit{Steps: 3, Depth: 1}, exhausted(), 3)
	isRun(t, "func main() { return 1 / 0; }", nil, api.Limit{Steps: 4, Depth: 1}, trapped(api.TrapDivide), 4)
}

func TestOutput(t *testing.T) {
	const loop = "var i = 0; while i < read { i = i + 1; print i; }"
	input := func(n int) (l []int) {
		for range n + 1 {
			l = append(l, n)
		}
		return l
	}
	steps := func(n int) int { return 2 + 4 + n*(4+2+4) }
	for _, n := range []int{0, 1, 100, api.MaxOutput - 1, api.MaxOutput} {
		isRun(t, "func main() { "+loop+" }", input(n), ample, returned(0, counted(n)...), steps(n))
	}
	for _, n := range []int{api.MaxOutput + 1, api.MaxOutput + 2, 2 * api.MaxOutput} {
		isRun(t, "func main() { "+loop+" }", input(n), ample, exhausted(counted(api.MaxOutput)...), 6+10*api.MaxOutput+4+2)
	}
	full := input(api.MaxOutput)
	isRun(t, "func main() { "+loop+" print 9; }", full, ample, exhausted(counted(api.MaxOutput)...), steps(api.MaxOutput)+2)
	isRun(t, "func main() { "+loop+" print 9 / 0; }", full, ample, trapped(api.TrapDivide, counted(api.MaxOutput)...), steps(api.MaxOutput)+4)
	isRun(t, "func main() { "+loop+" return 9 / 0; }", full, ample, trapped(api.TrapDivide, counted(api.MaxOutput)...), steps(api.MaxOutput)+4)
	isRun(t, "func main() { "+loop+" return 7; }", full, ample, returned(7, counted(api.MaxOutput)...), steps(api.MaxOutput)+2)
	isRun(t, "func main() { call f(); } func f() { "+loop+" return 5 + g(); } func g() { print 1; }", full, ample, exhausted(counted(api.MaxOutput)...), steps(api.MaxOutput)+2+4+2)
}

// TestDeepPrograms nests statements and expressions as deeply as they can be, in each of as many calls as there can be.
func TestDeepPrograms(t *testing.T) {
	high := strings.Repeat("-", api.MaxHeight-4) + "(n - f(n - 1))"
	text := "func main() { return f(read); } func f(n) { " + strings.Repeat("while 1 { ", api.MaxNesting-2) + "if n { return " + high + "; } else { return 0; } " + strings.Repeat("}", api.MaxNesting-2) + " }"
	n := api.MaxDepth - 2
	down := 2*(api.MaxNesting-2) + 2
	isRun(t, text, []int{n}, ample, returned(n/2), 3+n*(down+1+api.MaxHeight-4+6)+down+2)
	isRun(t, text, []int{n + 1}, ample, exhausted(), 3+(n+1)*(down+1+api.MaxHeight-4+6))
}

// TestLongRuns takes 25 steps a round.
func TestLongRuns(t *testing.T) {
	const rounds = 1000000
	isRun(t, "global a[7]; func main() { var i = 0; while i < "+strconv.Itoa(rounds)+" { a[i % 7] = a[i % 7] + f(i); i = i + 1; } return a[0] + a[6]; } func f(x) { if x % 2 { return 1; } return 0; }",
		nil, api.Limit{Steps: math.MaxInt, Depth: 2}, returned(rounds/14*2+1), 6+25*rounds+6)
}
