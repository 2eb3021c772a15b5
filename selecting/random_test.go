package selecting_test

import (
	"fmt"
	"slices"
	"testing"

	"warmpath/api"
	"warmpath/check"
	"warmpath/flow"
	"warmpath/lower"
	"warmpath/machine"
	"warmpath/selecting"
	"warmpath/syntax"
)

func TestRandomFunctions(t *testing.T) {
	m := newMaker(4)
	wide, narrow := 0, 0
	for range 3000 {
		f := m.function(1 + m.Intn(30))
		for range 2 {
			order := m.order(len(f.Blocks))
			for _, c := range jumpsOf(t, f, order) {
				if c.Wide {
					wide++
				} else {
					narrow++
				}
			}
		}
	}
	if wide < 20000 || narrow < 20000 {
		t.Errorf("only %d Wide jumps and %d others", wide, narrow)
	}
}

func TestRandomGreatFunctions(t *testing.T) {
	m := newMaker(5)
	for range 30 {
		f := m.function(200 + m.Intn(57))
		isAsRead(t, f, m.order(len(f.Blocks)))
	}
}

// TestRandomLists has lists that are often no orders.
func TestRandomLists(t *testing.T) {
	m := newMaker(6)
	seen := map[bool]int{}
	for range 3000 {
		f := m.function(1 + m.Intn(9))
		order := m.order(len(f.Blocks))
		for range m.Intn(3) {
			switch i := m.Intn(len(order) + 1); m.Intn(4) {
			case 0:
				order = slices.Insert(order, i, []int{0, m.Intn(9), m.any()}[m.Intn(3)])
			case 1:
				order = slices.Delete(order, i, min(i+1, len(order)))
			default:
				if i < len(order) {
					order[i] = []int{order[m.Intn(len(order))], m.Intn(9), m.any()}[m.Intn(3)]
				}
			}
		}
		sorted := slices.Sorted(slices.Values(order))
		want := slices.Equal(sorted, selecting.Natural(f)) && order[0] == 0
		isOrder(t, f, order, want)
		seen[want]++
	}
	if seen[false] < 500 || seen[true] < 500 {
		t.Errorf("only %v", seen)
	}
}

// image is the bytes of a function in an order, and where its blocks lie in them.
type image struct {
	f     api.Function
	code  []byte
	start map[int]int // by block
	end   map[int]int
}

func imageOf(t *testing.T, f api.Function, order []int) image {
	t.Helper()
	codes, starts, e := selecting.Select(f, order)
	if e != api.OK {
		t.Fatalf("%v in the order %v: error %d", f, order, e)
	}
	m := image{f, bytes(t, codes), map[int]int{}, map[int]int{}}
	for place, b := range order {
		m.start[b], m.end[b] = starts[place], append(starts, len(m.code))[place+1]
	}
	return m
}

func (m image) decode(t *testing.T, at int) (c api.Code, behind int) {
	t.Helper()
	c, size, e := machine.Decode(m.code, at)
	if e != api.OK {
		t.Fatalf("%v: error %d at %d", m.code, e, at)
	}
	return c, at + size
}

// leave returns the address to which the end of a block that begins at an address leads, if the register of its branch is not 0, or is; false if it returns.
func (m image) leave(t *testing.T, b, at int, holds bool) (int, bool) {
	t.Helper()
	for at < m.end[b] {
		c, behind := m.decode(t, at)
		if c.Op != api.CodeJump && c.A != m.f.Blocks[b].Term.A {
			t.Errorf("%v: %v at the end of the block %d", m.f, c, b)
		}
		switch {
		case c.Op == api.CodeReturn:
			return 0, false
		case c.Op == api.CodeJump, c.Op == api.CodeIf && holds, c.Op == api.CodeUnless && !holds:
			return behind + c.Value, true
		case c.Op != api.CodeIf && c.Op != api.CodeUnless:
			t.Errorf("%v: %v at the end of the block %d", m.f, c, b)
		}
		at = behind
	}
	return at, true
}

// target is the block to which an end leads; false if it returns.
func target(end api.Term, holds bool) (int, bool) {
	switch {
	case end.Kind == api.TermReturn:
		return 0, false
	case end.Kind == api.TermJump || holds:
		return end.To, true
	}
	return end.Else, true
}

// isFollowed demands that the bytes of each block do what its instructions do, and lead to where its end leads.
func isFollowed(t *testing.T, f api.Function, order []int) {
	t.Helper()
	m := imageOf(t, f, order)
	for b, x := range f.Blocks {
		at := m.start[b]
		for _, i := range x.Instrs {
			c, behind := m.decode(t, at)
			if !machine.Same(c, plain(i)) {
				t.Errorf("%v: %v at %d, not %v", f, c, at, i)
			}
			at = behind
		}
		for _, holds := range []bool{false, true} {
			to, leads := target(x.Term, holds)
			if got, ok := m.leave(t, b, at, holds); ok != leads || ok && got != m.start[to] {
				t.Fatalf("%v in the order %v: from the block %d to the address %d, %t", f, order, b, got, ok)
			}
		}
	}
}

func TestRandomWays(t *testing.T) {
	m := newMaker(7)
	for range 1000 {
		f := m.function(1 + m.Intn(30))
		for range 3 {
			isFollowed(t, f, m.order(len(f.Blocks)))
		}
	}
}

// isRest reports whether an instruction is no jump.
func isRest(c api.Code) bool { return c.Op < api.CodeJump || c.Op > api.CodeUnless }

// TestOtherInstructions has the instructions other than jumps of each block: they are the same in every order.
func TestOtherInstructions(t *testing.T) {
	m := newMaker(8)
	rest := func(f api.Function, order []int) (l []string) {
		codes, _, _ := selecting.Select(f, order)
		for _, c := range codes {
			if isRest(c) {
				l = append(l, fmt.Sprint(c))
			}
		}
		slices.Sort(l)
		return l
	}
	for range 500 {
		f := m.function(1 + m.Intn(12))
		want := rest(f, selecting.Natural(f))
		if got := rest(f, m.order(len(f.Blocks))); !slices.Equal(got, want) {
			t.Fatalf("%v: %v, not %v", f, got, want)
		}
	}
}

// TestSizeWithoutAddresses has other functions that are called, and other constants: the sizes stay.
func TestSizeWithoutAddresses(t *testing.T) {
	m := newMaker(9)
	for range 500 {
		f := m.function(1 + m.Intn(12))
		order := m.order(len(f.Blocks))
		_, starts, _ := selecting.Select(f, order)
		size := selecting.Size(f, order)
		for _, b := range f.Blocks {
			for j, i := range b.Instrs {
				switch i.Kind {
				case api.InstrConst:
					b.Instrs[j].Value = m.any()
				case api.InstrCall:
					b.Instrs[j].Value = 1 + m.Intn(63)
				}
			}
		}
		_, others, _ := selecting.Select(f, order)
		if got := selecting.Size(f, order); got != size || !slices.Equal(others, starts) {
			t.Fatalf("%v: %v and %d, not %v and %d", f, others, got, starts, size)
		}
	}
}

// lowered is the functions of a source.
func lowered(t *testing.T, text string) []api.Function {
	t.Helper()
	p, line, e := syntax.Parse(text)
	if e == api.OK {
		p, line, e = check.Resolve(p)
	}
	if e != api.OK {
		t.Fatalf("%s: error %d in line %d", text, e, line)
	}
	q, e := lower.Lower(p)
	if e != api.OK || flow.Check(q) != api.OK {
		t.Fatalf("%s: errors %d, %d", text, e, flow.Check(q))
	}
	return q.Funcs
}

func TestSources(t *testing.T) {
	m := newMaker(10)
	for _, x := range []struct {
		text string
		ops  string // of the last function, in its natural order
	}{
		{"func main() { }", "[1 16]"},
		{"func main() { print 7 / 2; }", "[1 1 4 10 1 16]"},
		{"func main() { if read { print 1; } return 2; }", "[9 15 1 10 1 16]"},
		{"func main() { if read { print 1; } else { print 2; } }", "[9 15 1 10 13 1 10 1 16]"},
		{"func main() { while read { print 1; } }", "[9 15 1 10 13 1 16]"},
		{"global g; global a[4]; func main() { } func f(p, q) { a[g] = -p; g = f(a[q], (&f)(p, g)); }", "[5 2 3 8 2 7 18 2 5 12 11 6 1 16]"},
		{"func main() { return read || read && read; }", "[9 14 9 15 9 15 1 13 1 15 1 13 1 16]"},
	} {
		funcs := lowered(t, x.text)
		for _, f := range funcs {
			for range 5 {
				order := m.order(len(f.Blocks))
				isFollowed(t, f, order)
				_, starts, _ := selecting.Select(f, order)
				if starts[0] != 0 {
					t.Errorf("%s: %v", x.text, starts)
				}
			}
		}
		last := funcs[len(funcs)-1]
		codes, _, _ := selecting.Select(last, selecting.Natural(last))
		var ops []int
		for _, c := range codes {
			ops = append(ops, c.Op)
		}
		if got := fmt.Sprint(ops); got != x.ops {
			t.Errorf("%s: %s, not %s", x.text, got, x.ops)
		}
	}
}
