package selecting_test

import (
	"fmt"
	"slices"
	"testing"

	"warmpath/api"
	"warmpath/machine"
	"warmpath/selecting"
)

// row is a function whose blocks each lead to the next one.
func row(blocks int) api.Function {
	f := function()
	for b := range blocks {
		f.Blocks = append(f.Blocks, block(leap(b+1)))
	}
	f.Blocks[blocks-1].Term = give(0)
	return f
}

// isOrder demands what Ordered reports, and what the other functions do with an order that is none.
func isOrder(t *testing.T, f api.Function, order []int, want bool) {
	t.Helper()
	before := fmt.Sprint(order)
	if got := selecting.Ordered(f, order); got != want {
		t.Errorf("%s of %d blocks: %t", before, len(f.Blocks), got)
	}
	codes, starts, e := selecting.Select(f, order)
	size := selecting.Size(f, order)
	right := e == api.OK && len(starts) == len(f.Blocks) && size > 0
	if !want {
		right = e == api.ErrLayout && len(codes) == 0 && len(starts) == 0 && size == 0
	}
	if !right {
		t.Errorf("%s of %d blocks: %v, %v, error %d, size %d", before, len(f.Blocks), codes, starts, e, size)
	}
	if after := fmt.Sprint(order); after != before {
		t.Errorf("%s, not %s", after, before)
	}
}

func TestKnownOrders(t *testing.T) {
	for _, x := range []struct {
		blocks int
		order  []int
		want   bool
	}{
		{1, []int{0}, true}, {1, nil, false}, {1, []int{}, false}, {1, []int{1}, false}, {1, []int{-1}, false}, {1, []int{0, 0}, false}, {1, []int{0, 1}, false},
		{2, []int{0, 1}, true}, {2, []int{1, 0}, false}, {2, []int{0, 0}, false}, {2, []int{1, 1}, false}, {2, []int{0}, false}, {2, []int{0, 1, 1}, false}, {2, []int{0, 1, 0}, false}, {2, []int{0, 1, 2}, false}, {2, []int{0, 2}, false}, {2, []int{0, -1}, false},
		{3, []int{0, 1, 2}, true}, {3, []int{0, 2, 1}, true}, {3, []int{1, 0, 2}, false}, {3, []int{2, 1, 0}, false}, {3, []int{0, 1, 1}, false}, {3, []int{0, 2, 0}, false}, {3, []int{0, 1, 3}, false}, {3, []int{0, 1}, false}, {3, []int{1, 2}, false},
		{3, []int{0, 1, smallest}, false}, {3, []int{0, greatest, 1}, false}, {3, []int{smallest, 1, 2}, false}, {3, []int{0, 1, 1 << 32}, false}, {3, []int{0, 1, 256 + 2}, false}, {3, []int{0, 1, 2 - 256}, false},
	} {
		isOrder(t, row(x.blocks), x.order, x.want)
	}
}

// TestAllLists has all lists of numbers up to a length, of functions of any number of blocks up to it.
func TestAllLists(t *testing.T) {
	var lists [][]int
	for last := [][]int{{}}; len(last[0]) < 5; {
		lists = append(lists, last...)
		var next [][]int
		for _, l := range last {
			for n := -1; n < 5; n++ {
				next = append(next, append(slices.Clone(l), n))
			}
		}
		last = next
	}
	for blocks := 1; blocks <= 4; blocks++ {
		f, orders := row(blocks), 0
		for _, l := range lists {
			want := len(l) == blocks && l[0] == 0
			for b := range blocks {
				want = want && slices.Contains(l, b)
			}
			isOrder(t, f, l, want)
			if want {
				orders++
			}
		}
		if want := []int{1, 1, 2, 6}[blocks-1]; orders != want {
			t.Errorf("%d orders of %d blocks", orders, blocks)
		}
	}
}

func TestNatural(t *testing.T) {
	for blocks := 1; blocks <= api.MaxBlocks; blocks++ {
		f := row(blocks)
		l := selecting.Natural(f)
		isOrder(t, f, l, true)
		for i := range l {
			if l[i] != i {
				t.Fatalf("%d blocks: %v", blocks, l)
			}
		}
		isOrder(t, f, append(slices.Clone(l), blocks), false)
		isOrder(t, f, l[:blocks-1], false)
		l[0] = 9
		if again := selecting.Natural(f); again[0] != 0 {
			t.Errorf("%d blocks: %v", blocks, again)
		}
	}
}

// TestKnownInstructions has each kind, with anything in the slots that it does not use.
func TestKnownInstructions(t *testing.T) {
	l := []int{3, 249, 3}
	for i, x := range []struct {
		i api.Instr
		c api.Code
	}{
		{api.Instr{Kind: api.InstrConst, Dst: 7, A: 8, B: 9, Value: -5, Args: l}, api.Code{Op: api.CodeConst, Dst: 7, Value: -5}},
		{api.Instr{Kind: api.InstrConst, A: -1, B: smallest, Value: smallest}, api.Code{Op: api.CodeConst, Value: smallest}},
		{api.Instr{Kind: api.InstrMove, Dst: 7, A: 8, B: 9, Args: l}, api.Code{Op: api.CodeMove, Dst: 7, A: 8}},
		{api.Instr{Kind: api.InstrUnary, Op: api.OpNegate, Dst: 7, A: 8, B: 9, Args: l}, api.Code{Op: api.CodeUnary, Arith: api.OpNegate, Dst: 7, A: 8}},
		{api.Instr{Kind: api.InstrUnary, Op: api.OpNot, Dst: 7, A: 8, B: -9, Args: l}, api.Code{Op: api.CodeUnary, Arith: api.OpNot, Dst: 7, A: 8}},
		{api.Instr{Kind: api.InstrBinary, Op: api.OpAdd, Dst: 7, A: 8, B: 9, Args: l}, api.Code{Op: api.CodeBinary, Arith: api.OpAdd, Dst: 7, A: 8, B: 9}},
		{api.Instr{Kind: api.InstrBinary, Op: api.OpUnequal, Dst: 249, A: 248, B: 247}, api.Code{Op: api.CodeBinary, Arith: api.OpUnequal, Dst: 249, A: 248, B: 247}},
		{api.Instr{Kind: api.InstrLoad, Dst: 7, A: 8, B: 9, Value: 15, Args: l}, api.Code{Op: api.CodeLoad, Dst: 7, Value: 15}},
		{api.Instr{Kind: api.InstrStore, Dst: 7, A: 8, B: 9, Value: 15, Args: l}, api.Code{Op: api.CodeStore, A: 8, Value: 15}},
		{api.Instr{Kind: api.InstrElement, Dst: 7, A: 8, B: 9, Value: 16, Args: l}, api.Code{Op: api.CodeElement, Dst: 7, A: 8, Value: 16}},
		{api.Instr{Kind: api.InstrSet, Dst: 7, A: 8, B: 9, Value: 31, Args: l}, api.Code{Op: api.CodeSet, A: 8, B: 9, Value: 31}},
		{api.Instr{Kind: api.InstrRead, Dst: 7, A: 8, B: 9, Args: l}, api.Code{Op: api.CodeRead, Dst: 7}},
		{api.Instr{Kind: api.InstrPrint, Dst: 7, A: 8, B: 9, Args: l}, api.Code{Op: api.CodePrint, A: 8}},
		{api.Instr{Kind: api.InstrCall, Dst: 7, A: 8, B: 9, Value: 3, Args: l}, api.Code{Op: api.CodeCall, Dst: 7, Value: 3, Args: []int{3, 249, 3}}},
		{api.Instr{Kind: api.InstrCall, Dst: 7, A: 8, B: 9}, api.Code{Op: api.CodeCall, Dst: 7}},
		{api.Instr{Kind: api.InstrCallValue, Dst: 7, A: 8, B: 9, Args: l}, api.Code{Op: api.CodeCallValue, Dst: 7, A: 8, Args: []int{3, 249, 3}}},
		{api.Instr{Kind: api.InstrCallValue, Dst: 7, A: 8, B: 9}, api.Code{Op: api.CodeCallValue, Dst: 7, A: 8}},
		{api.Instr{Kind: api.InstrCount, Dst: 7, A: 8, B: 9, Value: 4095, Args: l}, api.Code{Op: api.CodeCount, Value: 4095}},
		{api.Instr{Kind: api.InstrFunc, Dst: 7, A: 8, B: 9, Value: 6, Args: l}, api.Code{Op: api.CodeFunc, Dst: 7, Value: 6}},
	} {
		last := api.Code{Op: api.CodeReturn, A: 5}
		isSelected(t, function(block(give(5), x.i)), []int{0}, []api.Code{x.c, last}, []int{0})
		for _, other := range others(x.i) {
			isSelected(t, function(block(give(5), other)), []int{0}, []api.Code{x.c, last}, []int{0})
		}
		if got := plain(x.i); !machine.Same(got, x.c) {
			t.Errorf("instruction %d: the reader has %v", i, got)
		}
	}
}

// others are an instruction with other numbers in Op and Value, where its kind does not use them.
func others(i api.Instr) (l []api.Instr) {
	s := shapes[i.Kind]
	for _, n := range []int{1, 2, 3, 7, -1, smallest, greatest} {
		other := i
		if !s.arith {
			other.Op = n
		}
		if !s.value {
			other.Value = n
		}
		l = append(l, other)
	}
	return l
}

// TestFieldsWithoutMeaning has anything in the fields that a kind does not use: the machine instructions are those of the same instructions with 0 there.
func TestFieldsWithoutMeaning(t *testing.T) {
	m := newMaker(1)
	for range 300 {
		f := m.function(1 + m.Intn(6))
		order := m.order(len(f.Blocks))
		g := function()
		for _, b := range f.Blocks {
			b.Instrs = slices.Clone(b.Instrs)
			for j := range b.Instrs {
				b.Instrs[j] = bare(b.Instrs[j])
			}
			g.Blocks = append(g.Blocks, b)
		}
		codes, starts, e := selecting.Select(g, order)
		if e != api.OK || selecting.Size(f, order) != selecting.Size(g, order) {
			t.Fatalf("%v: error %d, or other sizes of %v", g, e, f)
		}
		isSelected(t, f, order, codes, starts)
	}
}

// bare is an instruction with 0 in the fields that its kind does not use.
func bare(i api.Instr) api.Instr {
	s := shapes[i.Kind]
	b := api.Instr{Kind: i.Kind}
	for _, slot := range s.slots {
		switch slot {
		case 'd':
			b.Dst = i.Dst
		case 'a':
			b.A = i.A
		case 'b':
			b.B = i.B
		case 'l':
			b.Args = i.Args
		}
	}
	if s.arith {
		b.Op = i.Op
	}
	if s.value {
		b.Value = i.Value
	}
	return b
}

// TestKnownEnds has each kind of ends, ahead of each block, and at the end of the order.
func TestKnownEnds(t *testing.T) {
	jump := func(value int) api.Code { return api.Code{Op: api.CodeJump, Value: value} }
	ifs := func(value int) api.Code { return api.Code{Op: api.CodeIf, A: 6, Value: value} }
	unless := func(value int) api.Code { return api.Code{Op: api.CodeUnless, A: 6, Value: value} }
	end := func(a int) api.Code { return api.Code{Op: api.CodeReturn, A: a} }
	for _, x := range []struct {
		ends   []api.Term
		order  []int
		codes  []api.Code
		starts []int
	}{
		{[]api.Term{give(9)}, []int{0}, []api.Code{end(9)}, []int{0}},
		{[]api.Term{{Kind: api.TermReturn, A: 9, To: 5, Else: -1}}, []int{0}, []api.Code{end(9)}, []int{0}},
		{[]api.Term{leap(0)}, []int{0}, []api.Code{jump(-2)}, []int{0}},
		{[]api.Term{{Kind: api.TermJump, A: 99, Else: 99}}, []int{0}, []api.Code{jump(-2)}, []int{0}},
		{[]api.Term{branch(6, 0, 0)}, []int{0}, []api.Code{jump(-2)}, []int{0}},
		// Example 1.
		{[]api.Term{leap(1), give(9)}, []int{0, 1}, []api.Code{end(9)}, []int{0, 0}},
		{[]api.Term{branch(6, 1, 1), give(9)}, []int{0, 1}, []api.Code{end(9)}, []int{0, 0}},
		{[]api.Term{leap(1), leap(1)}, []int{0, 1}, []api.Code{jump(-2)}, []int{0, 0}},
		{[]api.Term{leap(1), leap(0)}, []int{0, 1}, []api.Code{jump(-2)}, []int{0, 0}},
		{[]api.Term{branch(6, 0, 1), give(9)}, []int{0, 1}, []api.Code{ifs(-3), end(9)}, []int{0, 3}},
		{[]api.Term{branch(6, 1, 0), give(9)}, []int{0, 1}, []api.Code{unless(-3), end(9)}, []int{0, 3}},
		{[]api.Term{leap(1), branch(6, 0, 1)}, []int{0, 1}, []api.Code{ifs(-3), jump(-5)}, []int{0, 0}},
		{[]api.Term{branch(6, 1, 2), give(7), give(8)}, []int{0, 1, 2}, []api.Code{unless(2), end(7), end(8)}, []int{0, 3, 5}},
		{[]api.Term{branch(6, 1, 2), give(7), give(8)}, []int{0, 2, 1}, []api.Code{ifs(2), end(8), end(7)}, []int{0, 3, 5}},
		{[]api.Term{branch(6, 2, 1), give(7), give(8)}, []int{0, 1, 2}, []api.Code{ifs(2), end(7), end(8)}, []int{0, 3, 5}},
		{[]api.Term{leap(2), give(7), branch(6, 1, 0)}, []int{0, 1, 2}, []api.Code{jump(2), end(7), ifs(-5), jump(-9)}, []int{0, 2, 4}},
		{[]api.Term{leap(2), give(7), branch(6, 1, 0)}, []int{0, 2, 1}, []api.Code{unless(-3), end(7)}, []int{0, 0, 3}},
		{[]api.Term{leap(2), give(7), branch(6, 0, 1)}, []int{0, 2, 1}, []api.Code{ifs(-3), end(7)}, []int{0, 0, 3}},
		{[]api.Term{leap(2), branch(6, 0, 2), leap(1)}, []int{0, 2, 1}, []api.Code{ifs(-3), jump(-5)}, []int{0, 0, 0}},
		{[]api.Term{branch(6, 2, 3), leap(3), leap(1), give(7)}, []int{0, 1, 2, 3}, []api.Code{ifs(4), jump(4), jump(2), jump(-4), end(7)}, []int{0, 5, 7, 9}},
		{[]api.Term{branch(6, 3, 2), leap(3), leap(1), give(7)}, []int{0, 1, 2, 3}, []api.Code{ifs(6), jump(2), jump(2), jump(-4), end(7)}, []int{0, 5, 7, 9}},
		{[]api.Term{branch(6, 2, 2), give(7), leap(1)}, []int{0, 1, 2}, []api.Code{jump(2), end(7), jump(-4)}, []int{0, 2, 4}},
	} {
		f := function()
		for _, end := range x.ends {
			f.Blocks = append(f.Blocks, block(end))
		}
		isSelected(t, f, x.order, x.codes, x.starts)
		isAsRead(t, f, x.order)
	}
}

// TestStarts has blocks with instructions of any sizes, and without any.
func TestStarts(t *testing.T) {
	f := function(block(leap(2), room(9)), block(give(1), room(20), room(30)), block(branch(2, 3, 4)), block(leap(1)), block(leap(0), room(6)))
	codes := []api.Code{{Op: 12, Args: make([]int, 5)}, {Op: 15, A: 2, Value: 52}, {Op: 12, Args: make([]int, 16)}, {Op: 12, Args: make([]int, 26)}, {Op: 16, A: 1}, {Op: 12, Args: make([]int, 2)}, {Op: 13, Value: -72}}
	isSelected(t, f, []int{0, 2, 3, 1, 4}, codes, []int{0, 9, 12, 12, 64})
}

// TestRoomOfSlices lays what belongs to somebody else behind the slices of the arguments.
func TestRoomOfSlices(t *testing.T) {
	args := []int{1, 2, 8, 8}
	instrs := []api.Instr{{Kind: api.InstrCallValue, Args: args[:2]}, {Kind: api.InstrRead}, {Kind: 99}, {Kind: 99}}
	blocks := []api.Block{block(branch(3, 2, 1), instrs[:2]...), block(give(0), instrs[1]), block(leap(1)), {Line: 9}, {Line: 9}}
	order := []int{0, 2, 1, 9, 9}
	f := function(blocks[:3]...)
	before := fmt.Sprint(args, instrs, blocks, order)
	codes := []api.Code{{Op: 12, Args: []int{1, 2}}, {Op: 9}, {Op: 15, A: 3, Value: 0}, {Op: 9}, {Op: 16}}
	isSelected(t, f, order[:3], codes, []int{0, 11, 11})
	if l := selecting.Natural(f); !slices.Equal(l, []int{0, 1, 2}) {
		t.Error(l)
	}
	if after := fmt.Sprint(args, instrs, blocks, order); after != before {
		t.Errorf("%s, not %s", after, before)
	}
}

// TestArgsAreCopies changes each list of Args of a result: the function and the others stay.
func TestArgsAreCopies(t *testing.T) {
	args := []int{1, 2, 3, 4, 5, 6}
	call := api.Instr{Kind: api.InstrCall, Value: 2, Args: args[:2]}
	value := api.Instr{Kind: api.InstrCallValue, Args: args[:3]}
	f := function(block(give(0), call, call, value, value, call))
	codes, starts, _ := selecting.Select(f, []int{0})
	want := fmt.Sprint(codes[1:], starts)
	before := fmt.Sprint(f, args)
	for i, c := range codes {
		_ = append(c.Args, 99)
		for j := range c.Args {
			c.Args[j] = 98
		}
		if i == 0 && fmt.Sprint(codes[1:], starts) != want {
			t.Errorf("lists share memory: %v", codes)
		}
	}
	if after := fmt.Sprint(f, args); after != before {
		t.Errorf("%s, not %s", after, before)
	}
}
