package selecting_test

import (
	"slices"
	"testing"

	"warmpath/api"
	"warmpath/selecting"
)

// jumpsOf returns the jumps of a function in an order.
func jumpsOf(t *testing.T, f api.Function, order []int) []api.Code {
	t.Helper()
	isAsRead(t, f, order)
	codes, _, _ := selecting.Select(f, order)
	return slices.DeleteFunc(codes, func(c api.Code) bool { return c.Op < 13 || c.Op > 15 })
}

// TestBounds has jumps of each kind whose distances are about the least and the greatest ones without Wide.
func TestBounds(t *testing.T) {
	for _, x := range []struct {
		op                 int
		f                  func(bytes int) api.Function
		bytes, value, size int
		wide               bool
	}{
		{api.CodeJump, jumpForward, 126, 126, 2, false}, {api.CodeJump, jumpForward, 127, 127, 2, false}, {api.CodeJump, jumpForward, 128, 128, 5, true}, {api.CodeJump, jumpForward, 129, 129, 5, true},
		{api.CodeIf, ifForward, 126, 126, 3, false}, {api.CodeIf, ifForward, 127, 127, 3, false}, {api.CodeIf, ifForward, 128, 128, 6, true}, {api.CodeIf, ifForward, 254, 254, 6, true},
		{api.CodeUnless, unlessForward, 126, 126, 3, false}, {api.CodeUnless, unlessForward, 127, 127, 3, false}, {api.CodeUnless, unlessForward, 128, 128, 6, true}, {api.CodeUnless, unlessForward, 254, 254, 6, true},
		// A jump back crosses itself, and farther if it is Wide.
		{api.CodeJump, jumpBack, 125, -127, 2, false}, {api.CodeJump, jumpBack, 126, -128, 2, false}, {api.CodeJump, jumpBack, 127, -132, 5, true}, {api.CodeJump, jumpBack, 254, -259, 5, true},
		{api.CodeIf, ifBack, 124, -127, 3, false}, {api.CodeIf, ifBack, 125, -128, 3, false}, {api.CodeIf, ifBack, 126, -132, 6, true}, {api.CodeIf, ifBack, 254, -260, 6, true},
		{api.CodeUnless, unlessBack, 124, -127, 3, false}, {api.CodeUnless, unlessBack, 125, -128, 3, false}, {api.CodeUnless, unlessBack, 126, -132, 6, true}, {api.CodeUnless, unlessBack, 254, -260, 6, true},
	} {
		f := x.f(x.bytes)
		order := selecting.Natural(f)
		isAsRead(t, f, order)
		codes, _, _ := selecting.Select(f, order)
		i := slices.IndexFunc(codes, func(c api.Code) bool { return c.Op == x.op })
		if i < 0 || codes[i].Value != x.value || codes[i].Wide != x.wide {
			t.Errorf("Op %d across %d bytes: %v", x.op, x.bytes, codes)
			continue
		}
		if size := len(bytes(t, codes[i:i+1])); size != x.size {
			t.Errorf("Op %d across %d bytes: %d bytes", x.op, x.bytes, size)
		}
	}
}

// The functions whose first jump of its kind crosses a number of bytes.

func jumpForward(bytes int) api.Function {
	return function(block(leap(2)), block(give(0), room(bytes-2)), block(branch(0, 1, 1)))
}

func ifForward(bytes int) api.Function {
	return function(block(branch(1, 2, 1)), block(leap(2), room(bytes)), block(give(0)))
}

func unlessForward(bytes int) api.Function {
	return function(block(branch(1, 1, 2)), block(leap(2), room(bytes)), block(give(0)))
}

func jumpBack(bytes int) api.Function {
	return function(block(leap(1)), block(leap(1), room(bytes)))
}

func ifBack(bytes int) api.Function {
	return function(block(leap(1)), block(branch(1, 1, 2), room(bytes)), block(give(0)))
}

func unlessBack(bytes int) api.Function {
	return function(block(leap(1)), block(branch(1, 2, 1), room(bytes)), block(give(0)))
}

// TestTwoJumps has a block that ends with two jumps, of which each one can be Wide alone, or because of the other one.
func TestTwoJumps(t *testing.T) {
	for _, x := range []struct {
		before, between int
		ifs, jump       int
		ifsWide, wide   bool
	}{
		{100, 20, -103, 22, false, false}, {125, 20, -128, 22, false, false}, {126, 20, -132, 22, true, false},
		{20, 125, -23, 127, false, false}, {20, 126, -23, 128, false, true}, {126, 126, -132, 128, true, true},
	} {
		f := function(block(leap(1)), block(branch(0, 1, 3), room(x.before)), block(give(0), room(x.between)), block(leap(2)))
		l := jumpsOf(t, f, []int{0, 1, 2, 3})
		if len(l) != 3 || l[0].Value != x.ifs || l[0].Wide != x.ifsWide || l[1].Value != x.jump || l[1].Wide != x.wide {
			t.Errorf("%d and %d bytes: %v", x.before, x.between, l)
		}
	}
}

// TestFirstOfTwoJumps has a block that ends with two jumps, of which the first one crosses the second one, which is Wide.
func TestFirstOfTwoJumps(t *testing.T) {
	for between, wide := range map[int]bool{121: false, 122: false, 123: true, 125: true, 126: true} {
		f := function(block(branch(0, 2, 3)), block(give(0), room(between-2)), block(leap(1), room(10)), block(give(0)))
		l := jumpsOf(t, f, []int{0, 1, 2, 3})
		if len(l) != 3 || l[0].Op != api.CodeIf || l[0].Value != between+5 || l[0].Wide != wide || l[1].Op != api.CodeJump || l[1].Value != between+15 || !l[1].Wide {
			t.Errorf("%d bytes: %v", between, l)
		}
	}
}

// chain is a function in whose natural order each block ends with a jump that crosses 124 bytes and the jump of the next block, and the last one of them crosses a number of bytes.
func chain(blocks, bytes int) api.Function {
	f := function()
	for b := range blocks {
		f.Blocks = append(f.Blocks, block(branch(b%250, b+2, b+1), room(124)))
	}
	f.Blocks = append(f.Blocks, block(leap(blocks+1), room(bytes)), block(give(0)))
	return f
}

// TestChain has jumps each of which is Wide only because the next one is: as many rounds as there are jumps.
func TestChain(t *testing.T) {
	for _, blocks := range []int{1, 2, 3, 10, 254} {
		for _, x := range []struct {
			bytes, value int
			wide         bool
		}{{127, 127, false}, {128, 130, true}} {
			f := chain(blocks, x.bytes)
			l := jumpsOf(t, f, selecting.Natural(f))
			if len(l) != blocks {
				t.Fatalf("%d blocks: %v", blocks, l)
			}
			for i, c := range l {
				value := x.value
				if i == blocks-1 {
					value = x.bytes
				}
				if c.Op != api.CodeIf || c.Wide != x.wide || c.Value != value {
					t.Errorf("%d blocks: jump %d: %v", blocks, i, c)
				}
			}
			size := 124*blocks + x.bytes + 3*blocks + 2
			if x.wide {
				size += 3 * blocks
			}
			if got := selecting.Size(f, selecting.Natural(f)); got != size {
				t.Errorf("%d blocks: size %d, not %d", blocks, got, size)
			}
		}
	}
}

// backChain is a function in whose natural order each jump leads back to the beginning of the jump ahead of it, across itself and 122 bytes between both, and the first one across itself and a number of bytes.
func backChain(jumps, bytes int) api.Function {
	f := function(block(leap(1), room(bytes)), block(branch(0, 0, 2)))
	for range jumps - 1 {
		b := len(f.Blocks)
		f.Blocks = append(f.Blocks, block(leap(b+1), room(122)), block(branch(b, b-1, b+2)))
	}
	f.Blocks = append(f.Blocks, block(give(0)))
	return f
}

func TestBackChain(t *testing.T) {
	for _, jumps := range []int{1, 2, 3, 10, 120} {
		for bytes, wide := range map[int]bool{125: false, 126: true} {
			f := backChain(jumps, bytes)
			l := jumpsOf(t, f, selecting.Natural(f))
			if len(l) != jumps {
				t.Fatalf("%d jumps: %v", jumps, l)
			}
			for i, c := range l {
				value := -128
				switch {
				case wide && i == 0:
					value = -132
				case wide:
					value = -134
				}
				if c.Op != api.CodeIf || c.Wide != wide || c.Value != value {
					t.Errorf("%d jumps: jump %d: %v", jumps, i, c)
				}
			}
		}
	}
}

// TestLeastSet has two jumps that cross one another: both reach as long as none is Wide, and none would if the other one were.
func TestLeastSet(t *testing.T) {
	for _, x := range []struct {
		first, last int
		values      [2]int
		wide        bool
	}{{102, 104, [2]int{127, -128}, false}, {102, 103, [2]int{126, -128}, false}, {101, 104, [2]int{127, -127}, false}, {103, 104, [2]int{130, -135}, true}, {102, 105, [2]int{131, -134}, true}} {
		f := function(block(leap(1)), block(branch(1, 4, 2), room(x.first)), block(branch(2, 1, 3), room(20)), block(leap(4), room(x.last)), block(give(0)))
		l := jumpsOf(t, f, []int{0, 1, 2, 3, 4})
		if len(l) != 2 || l[0].Wide != x.wide || l[1].Wide != x.wide || l[0].Value != x.values[0] || l[1].Value != x.values[1] {
			t.Errorf("%d and %d bytes: %v", x.first, x.last, l)
		}
	}
}

// TestFartherAway has jumps whose distances take more than two bytes, in the greatest functions.
func TestFartherAway(t *testing.T) {
	f := function(block(branch(0, 254, 255)))
	for b := 1; b < 254; b++ {
		f.Blocks = append(f.Blocks, block(branch(b%250, b+1, 1), slices.Repeat([]api.Instr{room(254)}, 7)...))
	}
	f.Blocks = append(f.Blocks, block(branch(3, 255, 1), slices.Repeat([]api.Instr{room(254)}, 20)...), block(leap(1)))
	far := 0
	for _, order := range [][]int{selecting.Natural(f), append([]int{0, 255}, selecting.Natural(f)[1:255]...), newMaker(2).order(256)} {
		for _, c := range jumpsOf(t, f, order) {
			if c.Value < -1<<15 || c.Value >= 1<<15 {
				far++
			}
		}
	}
	if far < 500 {
		t.Errorf("only %d far jumps", far)
	}
}

// isLeast demands that the Wide jumps are those that are in each set with which all others reach.
func isLeast(t *testing.T, f api.Function, order []int) {
	t.Helper()
	codes, _, _ := selecting.Select(f, order)
	r := read(f, order)
	jumps := r.jumps()
	needed := slices.Clone(jumps)
	for set := range 1 << len(jumps) {
		wide := make([]bool, len(r.codes))
		for i, at := range jumps {
			wide[at] = set>>i&1 == 1
		}
		if len(r.far(wide)) == 0 {
			needed = slices.DeleteFunc(needed, func(at int) bool { return !wide[at] })
		}
	}
	for i, c := range codes {
		if c.Wide != slices.Contains(needed, i) {
			t.Fatalf("%v in the order %v: %v, Wide are %v", f, order, codes, needed)
		}
	}
}

func TestAllSets(t *testing.T) {
	m := newMaker(3)
	some := 0
	for range 400 {
		f := m.function(1 + m.Intn(6))
		order := m.order(len(f.Blocks))
		isLeast(t, f, order)
		l := jumpsOf(t, f, order)
		wide := len(slices.DeleteFunc(slices.Clone(l), func(c api.Code) bool { return !c.Wide }))
		if wide > 0 && wide < len(l) {
			some++
		}
	}
	if some < 80 {
		t.Errorf("only %d functions with Wide jumps and others", some)
	}
}
