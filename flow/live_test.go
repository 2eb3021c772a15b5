package flow

import (
	"fmt"
	"slices"
	"testing"

	"warmpath/api"
)

// block is a block with an end and instructions.
func block(end api.Term, l ...api.Instr) api.Block { return api.Block{Instrs: l, Term: end} }

func set(dst int) api.Instr { return api.Instr{Kind: api.InstrConst, Dst: dst, A: 3, B: 3} }

func move(dst, a int) api.Instr { return api.Instr{Kind: api.InstrMove, Dst: dst, A: a, B: 3} }

func show(a int) api.Instr { return api.Instr{Kind: api.InstrPrint, Dst: 3, A: a, B: 3} }

func TestKnownLive(t *testing.T) {
	self := api.Instr{Kind: api.InstrCall, Dst: 0, A: 3, B: 3, Args: []int{1, 2, 1}}
	value := api.Instr{Kind: api.InstrCallValue, Dst: 2, A: 2, B: 3, Args: []int{0}}
	double := api.Instr{Kind: api.InstrBinary, Op: api.OpAdd, Dst: 1, A: 1, B: 0}
	for _, c := range []struct {
		blocks []api.Block
		want   string
	}{
		{[]api.Block{block(give(0))}, "[[0]]"}, {[]api.Block{block(give(0), set(0))}, "[[]]"}, {[]api.Block{block(give(2), set(0))}, "[[2]]"}, {[]api.Block{block(jump(0))}, "[[]]"},
		{[]api.Block{block(api.Term{Kind: api.TermJump, A: 3})}, "[[]]"}, {[]api.Block{block(branch(1, 0, 0))}, "[[1]]"}, {[]api.Block{block(give(0), move(0, 0))}, "[[0]]"}, {[]api.Block{block(give(0), move(0, 1))}, "[[1]]"},
		{[]api.Block{block(give(0), show(2), set(2), show(2), set(0))}, "[[2]]"}, {[]api.Block{block(give(0), set(2), show(2), set(0))}, "[[]]"}, {[]api.Block{block(give(0), self)}, "[[1 2]]"}, {[]api.Block{block(give(1), self)}, "[[1 2]]"},
		{[]api.Block{block(give(2), value)}, "[[0 2]]"}, {[]api.Block{block(give(1), double)}, "[[0 1]]"},
		{[]api.Block{block(give(3), set(3), api.Instr{Kind: api.InstrSet, Dst: 2, A: 1, B: 0})}, "[[0 1]]"}, {[]api.Block{block(give(2), api.Instr{Kind: api.InstrStore, Dst: 2, A: 1})}, "[[1 2]]"}, {[]api.Block{block(give(2), api.Instr{Kind: api.InstrPrint, Dst: 2, A: 1})}, "[[1 2]]"},
		{[]api.Block{block(give(2), api.Instr{Kind: api.InstrCount, Dst: 2, A: 1, Args: []int{0}})}, "[[2]]"}, {[]api.Block{block(give(2), api.Instr{Kind: api.InstrFunc, Dst: 2, A: 1, Args: []int{0}})}, "[[]]"}, {[]api.Block{block(give(2), api.Instr{Kind: api.InstrRead, Dst: 2, A: 1, Args: []int{0}})}, "[[]]"},
		{[]api.Block{block(branch(0, 1, 2)), block(jump(3), set(1)), block(jump(3)), block(give(1))}, "[[0 1] [] [1] [1]]"},
		{[]api.Block{block(branch(0, 1, 2)), block(jump(3), set(1)), block(jump(3), set(1)), block(give(1))}, "[[0] [] [] [1]]"},
		{[]api.Block{block(jump(1), set(0)), block(branch(1, 2, 3)), block(jump(1), move(0, 2), set(2)), block(give(0))}, "[[1 2] [0 1 2] [1 2] [0]]"},
		{[]api.Block{block(jump(2)), block(give(3)), block(branch(0, 3, 1), set(0)), block(jump(2), move(1, 2))}, "[[2 3] [3] [2 3] [2 3]]"},
	} {
		f := api.Function{Regs: 4, Blocks: c.blocks}
		if got := fmt.Sprint(Live(f)); got != c.want {
			t.Errorf("%v: %s, not %s", f, got, c.want)
		}
	}
}

func TestLiveParametersAreAsOthers(t *testing.T) {
	f := api.Function{Params: 2, Regs: 4, Blocks: []api.Block{block(give(3), show(1))}}
	if got := fmt.Sprint(Live(f)); got != "[[1 3]]" {
		t.Error(got)
	}
	if got := fmt.Sprint(Live(api.Function{Blocks: []api.Block{block(jump(1)), block(jump(0))}})); got != "[[] []]" {
		t.Error(got)
	}
}

// readFirst reports whether some way from the beginning of a block reads a register before it writes it.
func readFirst(f api.Function, b, register int, been []bool) bool {
	if been[b] {
		return false
	}
	been[b] = true
	for _, i := range f.Blocks[b].Instrs {
		if slices.Contains(used(i), register) {
			return true
		}
		if shapes[i.Kind].writes && i.Dst == register {
			return false
		}
	}
	end := f.Blocks[b].Term
	if end.Kind != api.TermJump && end.A == register {
		return true
	}
	return slices.ContainsFunc(successors(end), func(to int) bool { return readFirst(f, to, register, been) })
}

func TestRandomLive(t *testing.T) {
	m := newMaker(5)
	through := 0
	for range 3000 {
		p := api.Program{Globals: []api.Global{{}, {Size: 2}}, Funcs: []api.Function{{}, {Params: 1}, {Params: 3}}, Callable: 2, Counters: 1}
		f := m.function(p, api.Function{Regs: 1 + m.Intn(9)}, 1+m.Intn(12), m.Intn(5))
		live := Live(f)
		if len(live) != len(f.Blocks) {
			t.Fatalf("%v: %v", f, live)
		}
		for b, got := range live {
			var want []int
			for r := range f.Regs {
				if readFirst(f, b, r, make([]bool, len(f.Blocks))) {
					want = append(want, r)
				}
			}
			if !slices.Equal(got, want) {
				t.Fatalf("%v, block %d: %v, not %v", f, b, got, want)
			}
			through += len(got)
		}
	}
	if through < 20000 {
		t.Errorf("only %d live registers", through)
	}
}

// TestWalks goes anywhere from the beginning of a function: what it reads and has not written is live there.
func TestWalks(t *testing.T) {
	m := newMaker(6)
	zeros := 0
	for range 1000 {
		p := api.Program{Funcs: []api.Function{{}, {Params: 2}}, Callable: 1}
		f := m.function(p, api.Function{Regs: 6}, 1+m.Intn(9), 3)
		live, written, b := Live(f)[0], map[int]bool{}, 0
		read := func(l []int) {
			for _, r := range l {
				if written[r] {
					continue
				}
				if zeros++; !slices.Contains(live, r) {
					t.Fatalf("%v: %d is read as it was at first, and is not among %v", f, r, live)
				}
			}
		}
		for range 20 {
			for _, i := range f.Blocks[b].Instrs {
				read(used(i))
				written[i.Dst] = written[i.Dst] || shapes[i.Kind].writes
			}
			end := f.Blocks[b].Term
			if end.Kind != api.TermJump {
				read([]int{end.A})
			}
			next := successors(end)
			if len(next) == 0 {
				break
			}
			b = next[m.Intn(len(next))]
		}
	}
	if zeros < 1000 {
		t.Errorf("only %d registers were read as they were at first", zeros)
	}
}

// TestLargestLive has a ring of blocks, around which all registers are live up to the block that writes them.
func TestLargestLive(t *testing.T) {
	f := api.Function{Regs: api.MaxRegs}
	all := api.Instr{Kind: api.InstrCallValue}
	for r := range api.MaxRegs {
		all.Args = append(all.Args, r)
	}
	for b := range api.MaxBlocks {
		f.Blocks = append(f.Blocks, block(jump((b+1)%api.MaxBlocks)))
		if b < api.MaxRegs {
			f.Blocks[b].Instrs = []api.Instr{set(b)}
		}
	}
	last := len(f.Blocks) - 1
	f.Blocks[last].Instrs = []api.Instr{all}
	for b, got := range Live(f) {
		if want := all.Args[:min(b, api.MaxRegs)]; !slices.Equal(got, want) {
			t.Errorf("block %d: %v, not %v", b, got, want)
		}
	}
	if e := Check(api.Program{Funcs: []api.Function{f}}); e != api.OK {
		t.Errorf("error %d", e)
	}
}
