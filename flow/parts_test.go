package flow

import (
	"fmt"
	"slices"
	"testing"

	"warmpath/api"
)

func TestNext(t *testing.T) {
	for _, c := range []struct {
		end  api.Term
		want []int
	}{
		{api.Term{Kind: api.TermJump, To: 3}, []int{3}}, {api.Term{Kind: api.TermJump, A: 9, To: 3, Else: 4}, []int{3}}, {api.Term{Kind: api.TermJump}, []int{0}},
		{api.Term{Kind: api.TermBranch, A: 2, To: 1, Else: 5}, []int{1, 5}}, {api.Term{Kind: api.TermBranch, To: 5, Else: 1}, []int{5, 1}}, {api.Term{Kind: api.TermBranch, A: 2, To: 1, Else: 1}, []int{1}}, {api.Term{Kind: api.TermBranch}, []int{0}},
		{api.Term{Kind: api.TermReturn, A: 2, To: 1, Else: 5}, nil}, {api.Term{To: 1, Else: 5}, nil}, {api.Term{Kind: 4, To: 1, Else: 5}, nil}, {api.Term{Kind: -1, To: 1, Else: 5}, nil}, {api.Term{Kind: least, To: 1}, nil}, {api.Term{Kind: greatest, To: 1}, nil},
		{api.Term{Kind: api.TermJump, To: -1}, []int{-1}}, {api.Term{Kind: api.TermBranch, To: least, Else: greatest}, []int{least, greatest}}, {api.Term{Kind: api.TermBranch, To: -7, Else: -7}, []int{-7}},
	} {
		if got := Next(c.end); !slices.Equal(got, c.want) {
			t.Errorf("%v: %v, not %v", c.end, got, c.want)
		}
	}
}

func TestKnownUsesAndDefs(t *testing.T) {
	for kind, c := range map[int]struct {
		uses    []int
		defines bool
	}{
		api.InstrConst: {nil, true}, api.InstrMove: {[]int{8}, true}, api.InstrUnary: {[]int{8}, true}, api.InstrBinary: {[]int{8, 9}, true},
		api.InstrLoad: {nil, true}, api.InstrStore: {[]int{8}, false}, api.InstrElement: {[]int{8}, true}, api.InstrSet: {[]int{8, 9}, false},
		api.InstrRead: {nil, true}, api.InstrPrint: {[]int{8}, false}, api.InstrCall: {[]int{5, 4, 5}, true}, api.InstrCallValue: {[]int{8, 5, 4, 5}, true},
		api.InstrCount: {nil, false}, api.InstrFunc: {nil, true}, 0: {nil, false}, -1: {nil, false}, 15: {nil, false}, least: {nil, false}, greatest: {nil, false},
	} {
		i := api.Instr{Kind: kind, Op: 3, Dst: 7, A: 8, B: 9, Value: 6, Args: []int{5, 4, 5}}
		if got := Uses(i); !slices.Equal(got, c.uses) {
			t.Errorf("%v uses %v, not %v", i, got, c.uses)
		}
		register := 0
		if c.defines {
			register = 7
		}
		if got, ok := Def(i); got != register || ok != c.defines {
			t.Errorf("%v defines %d, %t", i, got, ok)
		}
	}
}

func TestUsesAndDefsOfAnything(t *testing.T) {
	m := newMaker(1)
	for range 20000 {
		i := api.Instr{Kind: m.Intn(18) - 2, Op: m.any(), Dst: m.any(), A: m.any(), B: m.any(), Value: m.any(), Args: m.anys()}
		if got := Uses(i); !slices.Equal(got, used(i)) {
			t.Fatalf("%v uses %v", i, got)
		}
		register, defines := 0, shapes[i.Kind].writes
		if defines {
			register = i.Dst
		}
		if got, ok := Def(i); got != register || ok != defines {
			t.Fatalf("%v defines %d, %t", i, got, ok)
		}
	}
}

// TestUsesAreNewMemory lays what belongs to somebody else behind the arguments.
func TestUsesAreNewMemory(t *testing.T) {
	for kind := -1; kind < 17; kind++ {
		args := []int{1, 2, 3, 4}
		i := api.Instr{Kind: kind, A: 5, B: 6, Args: args[:2]}
		l := Uses(i)
		before := fmt.Sprint(Uses(i))
		_ = append(l, 9, 9, 9)
		for j := range l {
			l[j] = 9
		}
		if after := fmt.Sprint(Uses(i)); after != before || fmt.Sprint(args) != "[1 2 3 4]" {
			t.Errorf("kind %d: %s, not %s, %v", kind, after, before, args)
		}
	}
}

func TestSize(t *testing.T) {
	three := make([]api.Instr, 3)
	for _, c := range []struct {
		f    api.Function
		want int
	}{
		{api.Function{}, 0}, {api.Function{Blocks: make([]api.Block, 1)}, 1}, {api.Function{Blocks: make([]api.Block, 4)}, 4},
		{api.Function{Blocks: []api.Block{{Instrs: three}}}, 4}, {api.Function{Blocks: []api.Block{{}, {Instrs: three[:2]}, {Instrs: three}}}, 8},
		{api.Function{Params: 3, Regs: 5, Blocks: []api.Block{{Instrs: three, Line: 8}}}, 4},
	} {
		if got := Size(c.f); got != c.want {
			t.Errorf("%v: %d, not %d", c.f, got, c.want)
		}
	}
}
