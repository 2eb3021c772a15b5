package evaluate

import (
	"fmt"
	"slices"
	"testing"

	"warmpath/api"
)

// outcomes are outcomes of which each one differs from all others, also such as no run has.
func outcomes() (l []api.Outcome) {
	for _, kind := range []int{-1, 0, api.Returned, api.Trapped, api.Exhausted, 4} {
		for _, value := range []int{0, 7} {
			for _, trap := range []int{0, api.TrapDivide, api.TrapValue} {
				for _, output := range [][]int{nil, {0}, {1}, {1, 2}, {1, 2, 3}, {1, 3}, {2, 1}} {
					l = append(l, api.Outcome{Kind: kind, Value: value, Trap: trap, Output: output})
				}
			}
		}
	}
	return l
}

// copied is an equal outcome in memory of its own, in which no output is an empty one.
func copied(a api.Outcome) api.Outcome {
	a.Output = append(make([]int, 0, 9), a.Output...)
	return a
}

func TestSame(t *testing.T) {
	l := outcomes()
	for i, a := range l {
		for j, b := range l {
			if Same(a, copied(b)) != (i == j) || Same(copied(a), b) != (i == j) {
				t.Errorf("%v and %v", a, b)
			}
		}
	}
}

// begins reports whether one output is the beginning of another one.
func begins(a, b []int) bool { return len(a) <= len(b) && slices.Equal(a, b[:len(a)]) }

func TestRefines(t *testing.T) {
	l := outcomes()
	for i, a := range l {
		for j, b := range l {
			want := i == j
			if a.Kind == api.Exhausted {
				want = begins(a.Output, b.Output) || begins(b.Output, a.Output)
			}
			if Refines(a, copied(b)) != want || Refines(copied(a), b) != want {
				t.Errorf("%v and %v", a, b)
			}
		}
	}
}

func TestKnownComparisons(t *testing.T) {
	returned := api.Outcome{Kind: api.Returned, Value: 3, Output: []int{1, 2}}
	trapped := api.Outcome{Kind: api.Trapped, Trap: api.TrapIndex, Output: []int{1, 2}}
	exhausted := func(output ...int) api.Outcome { return api.Outcome{Kind: api.Exhausted, Output: output} }
	for _, c := range []struct {
		a, b          api.Outcome
		same, refines bool
	}{
		{returned, returned, true, true}, {trapped, trapped, true, true}, {exhausted(1), exhausted(1), true, true}, {returned, trapped, false, false}, {trapped, returned, false, false},
		{exhausted(), returned, false, true}, {exhausted(1), returned, false, true}, {exhausted(1, 2), returned, false, true}, {exhausted(1, 2, 3), returned, false, true}, {exhausted(1, 2, 3), trapped, false, true},
		{exhausted(2), returned, false, false}, {exhausted(1, 3), returned, false, false}, {exhausted(1, 3, 2), returned, false, false}, {exhausted(1), exhausted(1, 2), false, true}, {exhausted(1, 2), exhausted(1), false, true}, {exhausted(1), exhausted(2), false, false},
		{returned, exhausted(1, 2), false, false}, {returned, exhausted(1), false, false}, {trapped, exhausted(), false, false},
	} {
		if Same(c.a, c.b) != c.same || Refines(c.a, c.b) != c.refines {
			t.Errorf("%v and %v: %v, %v", c.a, c.b, Same(c.a, c.b), Refines(c.a, c.b))
		}
	}
}

// TestComparingChangesNothing lays what belongs to somebody else behind an output.
func TestComparingChangesNothing(t *testing.T) {
	output := []int{1, 2, 3, 4}
	for _, kind := range []int{api.Returned, api.Trapped, api.Exhausted} {
		a, b := api.Outcome{Kind: kind, Output: output[:2]}, api.Outcome{Kind: kind, Output: output[:3]}
		if Same(a, b) || Same(b, a) || Refines(a, b) != (kind == api.Exhausted) || fmt.Sprint(output) != "[1 2 3 4]" {
			t.Errorf("%v and %v, %v", a, b, output)
		}
	}
}
