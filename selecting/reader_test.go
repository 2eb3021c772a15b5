package selecting_test

import (
	"fmt"
	"slices"
	"testing"

	"warmpath/api"
	"warmpath/machine"
	"warmpath/selecting"
)

// nowhere is what an instruction that is no jump has instead of a block to which it leads.
const nowhere = -1

// reading is what the words of P13.2 say of a function: its instructions without distances, the blocks to which they lead, and by block the index of the first one.
type reading struct {
	codes  []api.Code
	leads  []int
	firsts []int
}

func (r *reading) add(to int, c api.Code) {
	r.codes, r.leads = append(r.codes, c), append(r.leads, to)
}

// plain is the machine instruction of an instruction.
func plain(i api.Instr) api.Code {
	s := shapes[i.Kind]
	c := api.Code{Op: s.op}
	if s.arith {
		c.Arith = i.Op
	}
	if s.value {
		c.Value = i.Value
	}
	for _, slot := range s.slots {
		switch slot {
		case 'd':
			c.Dst = i.Dst
		case 'a':
			c.A = i.A
		case 'b':
			c.B = i.B
		case 'l':
			c.Args = i.Args
		}
	}
	return c
}

func (r *reading) end(t api.Term, next int) {
	if t.Kind == api.TermReturn {
		r.add(nowhere, api.Code{Op: 16, A: t.A})
		return
	}
	if t.Kind == api.TermJump || t.To == t.Else {
		if t.To != next {
			r.add(t.To, api.Code{Op: 13})
		}
		return
	}
	if t.To == next {
		r.add(t.Else, api.Code{Op: 15, A: t.A})
		return
	}
	r.add(t.To, api.Code{Op: 14, A: t.A})
	if t.Else != next {
		r.add(t.Else, api.Code{Op: 13})
	}
}

func read(f api.Function, order []int) *reading {
	r := &reading{firsts: make([]int, len(order))}
	for place, b := range order {
		r.firsts[b] = len(r.codes)
		for _, i := range f.Blocks[b].Instrs {
			r.add(nowhere, plain(i))
		}
		next := nowhere
		if place+1 < len(order) {
			next = order[place+1]
		}
		r.end(f.Blocks[b].Term, next)
	}
	return r
}

// jumps are the indices of the instructions that lead somewhere.
func (r *reading) jumps() (l []int) {
	for i, to := range r.leads {
		if to != nowhere {
			l = append(l, i)
		}
	}
	return l
}

// distances are those of all jumps, if the marked ones are Wide, by the sums of the sizes of what lies between.
func (r *reading) distances(wide []bool) []int {
	at := []int{0}
	for i, c := range r.codes {
		c.Wide = wide[i]
		if r.leads[i] != nowhere {
			c.Value = 0
		}
		at = append(at, at[i]+machine.Size(c))
	}
	l := make([]int, len(r.codes))
	for _, i := range r.jumps() {
		l[i] = at[r.firsts[r.leads[i]]] - at[i+1]
	}
	return l
}

// far are the jumps that are not marked and do not reach, if the marked ones are Wide.
func (r *reading) far(wide []bool) (l []int) {
	d := r.distances(wide)
	for _, i := range r.jumps() {
		if !wide[i] && d[i] != int(int8(d[i])) {
			l = append(l, i)
		}
	}
	return l
}

// marks are made Wide one after the other, the last one first.
func (r *reading) marks() []bool {
	wide := make([]bool, len(r.codes))
	for far := r.far(wide); len(far) > 0; far = r.far(wide) {
		wide[far[len(far)-1]] = true
	}
	return wide
}

// complete returns the instructions with their distances, and where the blocks in order start.
func (r *reading) complete(order []int) (codes []api.Code, starts []int) {
	wide := r.marks()
	d := r.distances(wide)
	codes = slices.Clone(r.codes)
	at := []int{0}
	for i := range codes {
		codes[i].Wide = wide[i]
		if r.leads[i] != nowhere {
			codes[i].Value = d[i]
		}
		at = append(at, at[i]+machine.Size(codes[i]))
	}
	for _, b := range order {
		starts = append(starts, at[r.firsts[b]])
	}
	return codes, starts
}

// bytes are those of all instructions.
func bytes(t *testing.T, codes []api.Code) (l []byte) {
	t.Helper()
	for _, c := range codes {
		b, e := machine.Encode(c)
		if e != api.OK {
			t.Fatalf("%v: error %d", c, e)
		}
		l = append(l, b...)
	}
	return l
}

// isSelected demands what Select and Size return, and that they leave their arguments as they are.
func isSelected(t *testing.T, f api.Function, order []int, codes []api.Code, starts []int) {
	t.Helper()
	isExpected(t, f)
	before := fmt.Sprint(f, order)
	gotCodes, gotStarts, e := selecting.Select(f, order)
	if e != api.OK || !slices.EqualFunc(gotCodes, codes, machine.Same) || !slices.Equal(gotStarts, starts) {
		t.Fatalf("%s: %v, %v, error %d, not %v, %v", before, gotCodes, gotStarts, e, codes, starts)
	}
	if size, want := selecting.Size(f, order), len(bytes(t, codes)); size != want {
		t.Errorf("%s: size %d, not %d", before, size, want)
	}
	if after := fmt.Sprint(f, order); after != before {
		t.Errorf("%s, not %s", after, before)
	}
}

// isAsRead demands what the words of P13.2 and P13.3 say.
func isAsRead(t *testing.T, f api.Function, order []int) {
	t.Helper()
	codes, starts := read(f, order).complete(order)
	isSelected(t, f, order, codes, starts)
}
