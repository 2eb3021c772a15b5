package machine

import (
	"fmt"
	"slices"
	"testing"

	"warmpath/api"
)

// isError demands the first error of an instruction, of all functions that look at it.
func isError(t *testing.T, c api.Code, want api.Errno) {
	t.Helper()
	before := fmt.Sprint(c)
	if e := Check(c); e != want {
		t.Errorf("%s: error %d, not %d", before, e, want)
	}
	b, e := Encode(c)
	if e != want || want != api.OK && len(b) > 0 {
		t.Errorf("%s: %v, error %d, not %d", before, b, e, want)
	}
	if size := Size(c); size != len(b) {
		t.Errorf("%s: size %d, not %d", before, size, len(b))
	}
	if after := fmt.Sprint(c); after != before {
		t.Errorf("%s, not %s", after, before)
	}
}

func TestOps(t *testing.T) {
	for op := -3; op < 300; op++ {
		for _, wide := range []bool{false, true} {
			c := api.Code{Op: op, Wide: wide, Arith: 1}
			want := api.OK
			if op < 1 || op > 18 || op == 4 || wide && (op < 13 || op > 15) {
				want = api.ErrOp
			}
			isError(t, c, want)
		}
	}
	for _, op := range []int{smallest, smallest + 1, -127, -115, greatest, 1<<32 + 2} {
		isError(t, api.Code{Op: op}, api.ErrOp)
		isError(t, api.Code{Op: op, Wide: true}, api.ErrOp)
	}
}

func TestOperations(t *testing.T) {
	for _, arith := range []int{smallest, -1, 0, 1, 2, 3, 4, 5, 6, 7, 8, 9, 10, 11, 12, 255, 256 + 3, greatest} {
		for op := 1; op <= 18; op++ {
			want := api.OK
			if op == 3 && arith != 1 && arith != 2 || op == 4 && (arith < 3 || arith > 11) {
				want = api.ErrOp
			}
			isError(t, api.Code{Op: op, Arith: arith}, want)
		}
	}
}

// right is an instruction with least numbers in all fields that its Op has.
func right(op int) api.Code {
	s := shapes[op]
	return api.Code{Op: op % 128, Wide: op >= 128, Arith: s.from}
}

func TestSlots(t *testing.T) {
	for _, op := range ops() {
		c := right(op)
		for i, field := range slotFields(&c, shapes[op]) {
			for slot, want := range map[int]api.Errno{-1: api.ErrRegister, smallest: api.ErrRegister, 0: api.OK, 1: api.OK, 249: api.OK, 250: api.ErrRegister, 256: api.ErrRegister, greatest: api.ErrRegister} {
				*field = slot
				isError(t, c, want)
			}
			*field = i
		}
	}
}

func TestArgs(t *testing.T) {
	for _, op := range ops() {
		c := right(op)
		wrong := api.ErrRegister
		if !shapes[op].args {
			wrong = api.OK
		}
		for _, slot := range []int{-1, 250, 256, smallest, greatest} {
			for _, args := range [][]int{{slot}, {slot, 0}, {0, 249, slot}, {0, slot, 0}} {
				c.Args = args
				isError(t, c, wrong)
			}
		}
		for n, want := range map[int]api.Errno{0: api.OK, 249: api.OK, 250: api.OK, 251: wrong, 256: wrong, 257: wrong, 512: wrong} {
			c.Args = slices.Repeat([]int{249}, n)
			isError(t, c, want)
		}
	}
}

func TestValues(t *testing.T) {
	for _, op := range ops() {
		s := shapes[op]
		c := right(op)
		for _, value := range []int{0, s.least, s.most} {
			c.Value = value
			isError(t, c, api.OK)
		}
		wrong := api.ErrRange
		if !s.value || op == api.CodeConst {
			wrong = api.OK
		}
		for _, value := range []int{s.least - 1, s.most + 1, smallest, greatest} {
			c.Value = value
			isError(t, c, wrong)
		}
	}
	for op, value := range map[int]int{5: 256 + 3, 11: 1<<32 + 3, 13: 256, 17: 1<<16 + 3, 18: 256 + 3, 141: 1 << 32, 143: -1 << 32} {
		c := right(op)
		c.Value = value
		isError(t, c, api.ErrRange)
	}
}

// TestErrorsAtOnce has more than one error: the first one of P12.1 applies, wherever it stands in the row.
func TestErrorsAtOnce(t *testing.T) {
	for _, x := range []struct {
		c api.Code
		e api.Errno
	}{
		{api.Code{Op: 19, Dst: 250, Value: -1}, api.ErrOp},
		{api.Code{Op: api.CodeUnary, A: 250}, api.ErrOp},
		{api.Code{Op: api.CodeUnary, Arith: 3, Dst: -1}, api.ErrOp},
		{api.Code{Op: api.CodeBinary, Arith: 2, B: 250}, api.ErrOp},
		{api.Code{Op: api.CodeLoad, Wide: true, Dst: 250, Value: 32}, api.ErrOp},
		{api.Code{Op: api.CodeCall, Wide: true, Args: []int{250}}, api.ErrOp},
		{api.Code{Op: api.CodeCall, Value: -1, Args: []int{250}}, api.ErrRegister},
		{api.Code{Op: api.CodeCall, Value: -1, Args: make([]int, 251)}, api.ErrRegister},
		{api.Code{Op: api.CodeCall, Value: 1<<20 + 1, Dst: 250}, api.ErrRegister},
		{api.Code{Op: api.CodeCall, Value: -1, Args: []int{249}}, api.ErrRange},
		{api.Code{Op: api.CodeSet, A: 0, B: 250, Value: 32}, api.ErrRegister},
		{api.Code{Op: api.CodeElement, Dst: 250, Value: 32}, api.ErrRegister},
		{api.Code{Op: api.CodeIf, A: 250, Value: 128}, api.ErrRegister},
		{api.Code{Op: api.CodeUnless, Wide: true, A: -1, Value: 1 << 31}, api.ErrRegister},
		{api.Code{Op: api.CodeFunc, Dst: 250, Value: 64}, api.ErrRegister},
		{api.Code{Op: api.CodeFunc, Dst: 249, Value: 64}, api.ErrRange},
		// These have no such fields.
		{api.Code{Op: api.CodeJump, A: 250, Dst: -1, Value: 128}, api.ErrRange},
		{api.Code{Op: api.CodeCount, A: 250, Args: []int{-1}, Value: 4096}, api.ErrRange},
		{api.Code{Op: api.CodeMove, Arith: 99, B: 250, Value: -1, Args: make([]int, 300)}, api.OK},
	} {
		isError(t, x.c, x.e)
	}
}

func TestRandomErrors(t *testing.T) {
	m := newMaker(3)
	seen := map[api.Errno]int{}
	for range 100000 {
		c := m.code(ops()[m.Intn(len(shapes))])
		c.Args = slices.Clone(c.Args)
		fields := []*int{&c.Op, &c.Arith, &c.Dst, &c.A, &c.B, &c.Value}
		for i := range c.Args {
			fields = append(fields, &c.Args[i])
		}
		for range m.Intn(3) {
			field := fields[m.Intn(len(fields))]
			*field = []int{m.any(), *field + 1, *field - 1}[m.Intn(3)]
		}
		switch m.Intn(20) {
		case 0:
			c.Wide = !c.Wide
		case 1:
			c.Args = make([]int, 249+m.Intn(3))
		}
		want := firstError(c)
		isError(t, c, want)
		seen[want]++
	}
	for _, e := range []api.Errno{api.OK, api.ErrOp, api.ErrRegister, api.ErrRange} {
		if seen[e] < 2000 {
			t.Errorf("error %d: only %d times", e, seen[e])
		}
	}
}
