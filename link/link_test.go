package link_test

import (
	"fmt"
	"slices"
	"testing"

	"warmpath/api"
	"warmpath/fingerprint"
	"warmpath/link"
	"warmpath/machine"
	"warmpath/selecting"
)

// three is a program of three functions, with 1, 3 and 2 blocks.
func three() api.Program {
	return api.Program{
		Globals:  []api.Global{{Name: "g"}, {Name: "a", Size: 5}},
		Callable: 2,
		Counters: 7,
		Funcs: []api.Function{
			function(0, 3, block(give(2), api.Instr{Kind: api.InstrCall, Dst: 1, Value: 2, Args: []int{0, 1}}, api.Instr{Kind: api.InstrCall, Dst: 2, Value: 0})),
			function(1, 9, block(branch(0, 1, 2)), block(leap(2), api.Instr{Kind: api.InstrCall, Dst: 8, Value: 1, Args: []int{3}}), block(give(8))),
			function(2, 4, block(leap(1)), block(give(3), api.Instr{Kind: api.InstrPrint, A: 3})),
		},
	}
}

func TestPlain(t *testing.T) {
	p := three()
	want := api.Layout{Funcs: []int{0, 1, 2}, Blocks: [][]int{{0}, {0, 1, 2}, {0, 1}}}
	if l := link.Plain(p); fmt.Sprint(l) != fmt.Sprint(want) {
		t.Errorf("%v", l)
	}
	for funcs := 1; funcs <= api.MaxFuncs; funcs++ {
		var p api.Program
		for i := range funcs {
			p.Funcs = append(p.Funcs, row(1+i*4%api.MaxBlocks))
		}
		isExpected(t, p)
		l := link.Plain(p)
		if e := link.Check(p, l); e != api.OK || !isCounting(l.Funcs, funcs) {
			t.Errorf("%v: error %d", l, e)
		}
		for i := range funcs {
			if !isCounting(l.Blocks[i], len(p.Funcs[i].Blocks)) {
				t.Errorf("%v", l.Blocks[i])
			}
		}
	}
}

// isCounting reports whether a list is 0, 1, 2 and so on.
func isCounting(l []int, n int) bool {
	for i, x := range l {
		if x != i {
			return false
		}
	}
	return len(l) == n
}

// row is a function whose blocks each lead to the next one.
func row(blocks int) api.Function {
	f := function(0, 1)
	for b := range blocks {
		f.Blocks = append(f.Blocks, block(leap(b+1)))
	}
	f.Blocks[blocks-1].Term = give(0)
	return f
}

func TestLayoutsThatAreRight(t *testing.T) {
	for _, l := range []api.Layout{
		{Funcs: []int{0, 1, 2}, Blocks: [][]int{{0}, {0, 1, 2}, {0, 1}}},
		{Funcs: []int{2, 1, 0}, Blocks: [][]int{{0}, {0, 2, 1}, {0, 1}}},
		{Funcs: []int{1, 2, 0}, Blocks: [][]int{{0}, {0, 2, 1}, {0, 1}}},
	} {
		isLinked(t, three(), l, expected(t, three(), l))
	}
}

func TestLayoutsThatAreWrong(t *testing.T) {
	funcs, blocks := []int{0, 1, 2}, [][]int{{0}, {0, 1, 2}, {0, 1}}
	for _, l := range [][]int{nil, {}, {0}, {0, 1}, {1, 2}, {0, 1, 2, 2}, {0, 1, 2, 3}, {0, 1, 1}, {0, 0, 0}, {0, 1, 3}, {1, 2, 3}, {-1, 0, 1}, {0, 1, -2}, {0, 1, greatest}, {smallest, 1, 2}, {0, 1, 1<<32 + 2}} {
		isRefused(t, three(), api.Layout{Funcs: l, Blocks: blocks}, api.ErrLayout, api.ErrLayout)
	}
	for _, l := range [][][]int{
		nil, {}, {{0}}, {{0}, {0, 1, 2}}, {{0}, {0, 1, 2}, {0, 1}, nil}, {{0}, {0, 1, 2}, {0, 1}, {0}}, {nil, {0, 1, 2}, {0, 1}}, {{0}, nil, {0, 1}}, {{0}, {0, 1, 2}, nil}, {{0}, {0, 1, 2}, {}},
		{{1}, {0, 1, 2}, {0, 1}}, {{0, 1}, {0, 1, 2}, {0, 1}}, {{0}, {1, 0, 2}, {0, 1}}, {{0}, {0, 1, 2}, {1, 0}}, {{0}, {0, 1}, {0, 1, 2}}, {{0}, {0, 1, 1}, {0, 1}}, {{0}, {0, 1, 3}, {0, 1}}, {{0}, {0, 1, 2}, {0, -1}}, {{0}, {0, 1, 2}, {0, greatest}},
	} {
		isRefused(t, three(), api.Layout{Funcs: funcs, Blocks: l}, api.ErrLayout, api.ErrLayout)
		// Blocks are by the number of the function, not by its place.
		isRefused(t, three(), api.Layout{Funcs: []int{2, 0, 1}, Blocks: l}, api.ErrLayout, api.ErrLayout)
	}
	isRefused(t, three(), api.Layout{}, api.ErrLayout, api.ErrLayout)
	isRefused(t, three(), api.Layout{Funcs: []int{1, 0, 2}, Blocks: [][]int{{0, 1, 2}, {0}, {0, 1}}}, api.ErrLayout, api.ErrLayout)
}

// places have a function, a block, an address and a size each.
func places(l [][4]int) (all []api.Place) {
	for _, x := range l {
		all = append(all, api.Place{Func: x[0], Block: x[1], Address: x[2], Size: x[3]})
	}
	return all
}

func TestKnownImages(t *testing.T) {
	first := []byte{11, 1, 0, 0, 0, 0, 2, 0, 1, 11, 2, 0, 0, 0, 0, 0, 16, 2}
	put := func(code []byte, second, third byte) []byte {
		b := slices.Clone(code)
		b[2], b[11] = second, third
		return b
	}
	m := api.Image{Params: []int{0, 1, 2}, Frames: []int{3, 9, 4}, Callable: 2, Counters: 7, Globals: []api.Global{{Name: "g"}, {Name: "a", Size: 5}}}
	m.Code = slices.Concat(put(first, 31, 0), []byte{15, 0, 8, 11, 8, 18, 0, 0, 0, 1, 3, 16, 8}, []byte{10, 3, 16, 3})
	m.Entries = []int{0, 18, 31}
	m.Places = places([][4]int{{0, 0, 0, 18}, {1, 0, 18, 3}, {1, 1, 21, 8}, {1, 2, 29, 2}, {2, 0, 31, 0}, {2, 1, 31, 4}})
	isLinked(t, three(), link.Plain(three()), m)
	isSearched(t, m)
	if l := link.Starts(m); !slices.Equal(l, []int{0, 9, 16, 18, 21, 29, 31, 33}) {
		t.Errorf("starts %v", l)
	}
	// The block 1 of the function 1 now stands behind the block 2.
	m.Code = slices.Concat([]byte{10, 3, 16, 3}, []byte{14, 0, 2, 16, 8, 11, 8, 4, 0, 0, 0, 1, 3, 13, 244}, put(first, 0, 19))
	m.Entries = []int{19, 4, 0}
	m.Places = places([][4]int{{2, 0, 0, 0}, {2, 1, 0, 4}, {1, 0, 4, 3}, {1, 2, 7, 2}, {1, 1, 9, 10}, {0, 0, 19, 18}})
	isLinked(t, three(), api.Layout{Funcs: []int{2, 1, 0}, Blocks: [][]int{{0}, {0, 2, 1}, {0, 1}}}, m)
	isSearched(t, m)
	if l := link.Starts(m); !slices.Equal(l, []int{0, 2, 4, 7, 9, 17, 19, 28, 35}) {
		t.Errorf("starts %v", l)
	}
}

// TestBlocksWithoutBytes has rows of blocks that take nothing, at the beginning and between others.
func TestBlocksWithoutBytes(t *testing.T) {
	p := program(row(4), function(0, 1, block(branch(0, 1, 1)), block(leap(2), room(5)), block(leap(3)), block(branch(0, 4, 4)), block(leap(0), room(3))))
	m := api.Image{Code: []byte{16, 0, 12, 0, 0, 1, 0, 2, 0, 0, 13, 246}, Entries: []int{0, 2}, Params: []int{0, 0}, Frames: []int{1, 1}}
	m.Places = places([][4]int{{0, 0, 0, 0}, {0, 1, 0, 0}, {0, 2, 0, 0}, {0, 3, 0, 2}, {1, 0, 2, 0}, {1, 1, 2, 5}, {1, 2, 7, 0}, {1, 3, 7, 0}, {1, 4, 7, 5}})
	isLinked(t, p, link.Plain(p), m)
	isSearched(t, m)
	if x, ok := link.Find(m, 2); !ok || x != (api.Place{Func: 1, Block: 1, Address: 2, Size: 5}) {
		t.Errorf("%v, %t", x, ok)
	}
	if x, ok := link.Block(m, 1, 0); !ok || x != (api.Place{Func: 1, Address: 2}) {
		t.Errorf("%v, %t", x, ok)
	}
}

// TestGreatestImage has as many bytes as an image can have, and one more.
func TestGreatestImage(t *testing.T) {
	third := api.MaxImage / 3
	p := program(sized(third), sized(third), sized(api.MaxImage-2*third))
	l := link.Plain(p)
	m, e := link.Link(p, l)
	if e != api.OK || len(m.Code) != api.MaxImage || !sameImage(m, expected(t, p, l)) {
		t.Fatalf("%d bytes, error %d", len(m.Code), e)
	}
	if x, ok := link.Find(m, api.MaxImage-1); !ok || x.Func != 2 || x.Address != 2*third {
		t.Errorf("%v, %t", x, ok)
	}
	if _, ok := link.Find(m, api.MaxImage); ok {
		t.Error("a place behind the code")
	}
	p.Funcs[1] = sized(third + 1)
	isRefused(t, p, l, api.ErrLimit, api.OK)
	isRefused(t, p, api.Layout{Funcs: []int{2, 0, 1}, Blocks: l.Blocks}, api.ErrLimit, api.OK)
	isRefused(t, p, api.Layout{Funcs: []int{0, 1, 1}, Blocks: l.Blocks}, api.ErrLayout, api.ErrLayout)
	isRefused(t, p, api.Layout{Funcs: l.Funcs, Blocks: l.Blocks[:2]}, api.ErrLayout, api.ErrLayout)
}

// TestGreatestImageByOrder has bytes that are too many only where a block does not stand ahead of the one to which it jumps.
func TestGreatestImageByOrder(t *testing.T) {
	third := api.MaxImage / 3
	small := function(0, 1, block(branch(0, 1, 2)), block(leap(0)), block(give(0)))
	rest := api.MaxImage - selecting.Size(small, []int{0, 1, 2})
	p := program(small, sized(third), sized(third), sized(rest-2*third))
	l := link.Plain(p)
	if m, e := link.Link(p, l); e != api.OK || len(m.Code) != api.MaxImage {
		t.Errorf("%d bytes, error %d", len(m.Code), e)
	}
	p.Funcs[0].Blocks[1].Term = leap(2)
	if m, e := link.Link(p, l); e != api.OK || len(m.Code) != api.MaxImage-2 {
		t.Errorf("%d bytes, error %d", len(m.Code), e)
	}
	p.Funcs[3] = sized(rest - 2*third + 2)
	l.Blocks[0] = []int{0, 2, 1}
	isRefused(t, p, l, api.ErrLimit, api.OK)
}

// TestCallsBeyondTheGreatestImage has calls of a function whose address no instruction can hold.
func TestCallsBeyondTheGreatestImage(t *testing.T) {
	call := function(0, 1, block(give(0), api.Instr{Kind: api.InstrCall, Value: 1}))
	p := program(call, row(1))
	for len(p.Funcs) < api.MaxFuncs {
		p.Funcs = append(p.Funcs, sized(1<<19-5000))
	}
	l := link.Plain(p)
	slices.Reverse(l.Funcs)
	isRefused(t, p, l, api.ErrLimit, api.OK)
	p.Funcs = p.Funcs[:5]
	l = link.Plain(p)
	slices.Reverse(l.Funcs)
	isRefused(t, p, l, api.ErrLimit, api.OK)
}

// TestLongJumps has a function with a Wide jump.
func TestLongJumps(t *testing.T) {
	p := program(sized(40), function(0, 1, block(branch(0, 2, 1)), block(leap(0), room(200)), block(give(0))))
	m, e := link.Link(p, link.Plain(p))
	if e != api.OK || !sameImage(m, expected(t, p, link.Plain(p))) {
		t.Fatalf("%v, error %d", m, e)
	}
	want := places([][4]int{{0, 0, 0, 40}, {1, 0, 40, 6}, {1, 1, 46, 205}, {1, 2, 251, 2}})
	if !slices.Equal(m.Places, want) {
		t.Errorf("%v, not %v", m.Places, want)
	}
	isSearched(t, m)
}

// TestCopiesOfGlobals changes the globals of an image: those of the program and of other images stay.
func TestCopiesOfGlobals(t *testing.T) {
	globals := []api.Global{{Name: "a", Size: 2}, {Name: "b"}, {Name: "c"}}
	p := program(row(1))
	p.Globals = globals[:1]
	m, _ := link.Link(p, link.Plain(p))
	other, _ := link.Link(p, link.Plain(p))
	m.Globals[0].Name = "x"
	_ = append(m.Globals, api.Global{Name: "y"})
	if globals[0] != (api.Global{Name: "a", Size: 2}) || globals[1].Name != "b" || other.Globals[0].Name != "a" {
		t.Errorf("%v, %v", globals, other.Globals)
	}
}

// TestRoomOfSlices lays what belongs to somebody else behind the slices of the arguments.
func TestRoomOfSlices(t *testing.T) {
	p := three()
	funcs, blocks := []int{1, 0, 2, 9, 9}, [][]int{{0, 9}, {0, 2, 1, 9}, {0, 1, 9}, {9}}
	l := api.Layout{Funcs: funcs[:3], Blocks: [][]int{blocks[0][:1], blocks[1][:3], blocks[2][:2], nil}[:3]}
	args := []int{0, 1, 9, 9}
	p.Funcs[0].Blocks[0].Instrs[0].Args = args[:2]
	m, e := link.Link(p, l)
	if e != api.OK || !sameImage(m, expected(t, p, l)) {
		t.Fatalf("%v, error %d", m, e)
	}
	if got := fmt.Sprint(funcs, blocks, args); got != fmt.Sprint([]int{1, 0, 2, 9, 9}, [][]int{{0, 9}, {0, 2, 1, 9}, {0, 1, 9}, {9}}, []int{0, 1, 9, 9}) {
		t.Error(got)
	}
	code := append(slices.Clone(m.Code), 16, 0, 16, 0)
	m.Code = code[:len(m.Code)]
	isSearched(t, m)
	if l := link.Starts(m); l[len(l)-1] >= len(m.Code) {
		t.Errorf("%v of %d bytes", l, len(m.Code))
	}
}

func TestPrint(t *testing.T) {
	p := three()
	m, _ := link.Link(p, link.Plain(p))
	if got := link.Print(m); got != fingerprint.Bytes(m.Code) || got == 0 {
		t.Errorf("%d", got)
	}
	// Names, lines and numbers of slots lie nowhere in Code.
	p.Funcs[1].Name, p.Funcs[1].Regs, p.Funcs[1].Blocks[0].Line, p.Counters, p.Globals[0].Name = "f", 20, 9, 8, "h"
	other, _ := link.Link(p, link.Plain(p))
	if link.Print(other) != link.Print(m) {
		t.Error("another print of the same code")
	}
	p.Funcs[2].Blocks[1].Term.A = 2
	if other, _ = link.Link(p, link.Plain(p)); link.Print(other) == link.Print(m) {
		t.Error("the same print of other code")
	}
}

// TestPrograms has random programs in random layouts.
func TestPrograms(t *testing.T) {
	m := newMaker(1)
	for range 600 {
		p := m.program()
		l := m.layout(p)
		want := expected(t, p, l)
		isLinked(t, p, l, want)
		isSearched(t, want)
		starts, at := []int{}, 0
		for at < len(want.Code) {
			_, size, e := machine.Decode(want.Code, at)
			if e != api.OK {
				t.Fatalf("%v: error %d at %d", want.Code, e, at)
			}
			starts, at = append(starts, at), at+size
		}
		if got := link.Starts(want); !slices.Equal(got, starts) {
			t.Fatalf("%v, not %v", got, starts)
		}
		if link.Print(want) != fingerprint.Bytes(want.Code) {
			t.Fatal("another print")
		}
		isPlain(t, p)
	}
}

func isPlain(t *testing.T, p api.Program) {
	t.Helper()
	before := fmt.Sprint(p)
	l := link.Plain(p)
	isLinked(t, p, l, expected(t, p, l))
	if !isCounting(l.Funcs, len(p.Funcs)) || len(l.Blocks) != len(p.Funcs) || fmt.Sprint(p) != before {
		t.Errorf("%v of %s", l, before)
	}
	for i, blocks := range l.Blocks {
		if !isCounting(blocks, len(p.Funcs[i].Blocks)) {
			t.Errorf("%v", l)
		}
	}
}

// TestConsequences has all bytes in places, each instruction in one place, and functions that are as long in each order of functions.
func TestConsequences(t *testing.T) {
	m := newMaker(2)
	for range 300 {
		p := m.program()
		l := m.layout(p)
		a, _ := link.Link(p, l)
		b, _ := link.Link(p, api.Layout{Funcs: m.Perm(len(p.Funcs)), Blocks: l.Blocks})
		if bytes(a) != len(a.Code) || len(a.Code) != len(b.Code) || a.Entries[l.Funcs[0]] != 0 {
			t.Fatalf("%v, %v", a, b)
		}
		for i, f := range p.Funcs {
			if length(a, i) != length(b, i) || length(a, i) != selecting.Size(f, l.Blocks[i]) {
				t.Fatalf("function %d: %d bytes, %d bytes", i, length(a, i), length(b, i))
			}
			if owner, ok := link.Owner(a, a.Entries[i]); !ok || owner != i {
				t.Fatalf("the entry of %d belongs to %d", i, owner)
			}
		}
		for _, start := range link.Starts(a) {
			_, size, _ := machine.Decode(a.Code, start)
			first, _ := link.Find(a, start)
			if last, ok := link.Find(a, start+size-1); !ok || last != first {
				t.Fatalf("the instruction at %d of %v", start, a)
			}
		}
	}
}

func bytes(m api.Image) (n int) {
	for i := range m.Entries {
		n += length(m, i)
	}
	return n
}

func length(m api.Image, fn int) (n int) {
	for _, x := range m.Places {
		if x.Func == fn {
			n += x.Size
		}
	}
	return n
}
