package machine

import (
	"fmt"
	"slices"
	"testing"

	"warmpath/api"
)

// known are instructions and their bytes.
var known = []struct {
	c api.Code
	b []byte
}{
	{api.Code{Op: api.CodeConst, Dst: 7, Value: 0x0102030405060708}, []byte{1, 7, 8, 7, 6, 5, 4, 3, 2, 1}},
	{api.Code{Op: api.CodeConst, Value: -2}, []byte{1, 0, 254, 255, 255, 255, 255, 255, 255, 255}},
	{api.Code{Op: api.CodeConst, Dst: 249, Value: smallest}, []byte{1, 249, 0, 0, 0, 0, 0, 0, 0, 128}},
	{api.Code{Op: api.CodeConst, Value: greatest}, []byte{1, 0, 255, 255, 255, 255, 255, 255, 255, 127}},
	{api.Code{Op: api.CodeMove, Dst: 1, A: 2}, []byte{2, 1, 2}},
	{api.Code{Op: api.CodeUnary, Arith: api.OpNot, Dst: 5, A: 6}, []byte{3, 2, 5, 6}},
	{api.Code{Op: api.CodeBinary, Arith: api.OpUnequal, Dst: 5, A: 6, B: 7}, []byte{4, 11, 5, 6, 7}},
	{api.Code{Op: api.CodeLoad, Dst: 9, Value: 31}, []byte{5, 9, 31}},
	{api.Code{Op: api.CodeStore, A: 9, Value: 3}, []byte{6, 9, 3}},
	{api.Code{Op: api.CodeElement, Dst: 4, A: 9, Value: 3}, []byte{7, 4, 9, 3}},
	{api.Code{Op: api.CodeSet, A: 4, B: 9, Value: 3}, []byte{8, 4, 9, 3}},
	{api.Code{Op: api.CodeRead, Dst: 200}, []byte{9, 200}},
	{api.Code{Op: api.CodePrint, A: 201}, []byte{10, 201}},
	{api.Code{Op: api.CodeCall, Dst: 3, Value: 0x0a0b0c, Args: []int{8, 0, 249}}, []byte{11, 3, 12, 11, 10, 0, 3, 8, 0, 249}},
	{api.Code{Op: api.CodeCall, Dst: 3, Value: 1 << 20}, []byte{11, 3, 0, 0, 16, 0, 0}},
	{api.Code{Op: api.CodeCallValue, Dst: 3, A: 4, Args: []int{5, 6}}, []byte{12, 3, 4, 2, 5, 6}},
	{api.Code{Op: api.CodeCallValue, Dst: 3, A: 4}, []byte{12, 3, 4, 0}},
	{api.Code{Op: api.CodeJump, Value: -1}, []byte{13, 255}},
	{api.Code{Op: api.CodeJump, Value: 127}, []byte{13, 127}},
	{api.Code{Op: api.CodeJump, Value: -128}, []byte{13, 128}},
	{api.Code{Op: api.CodeJump, Wide: true, Value: -2}, []byte{141, 254, 255, 255, 255}},
	{api.Code{Op: api.CodeJump, Wide: true, Value: 0x01020304}, []byte{141, 4, 3, 2, 1}},
	{api.Code{Op: api.CodeJump, Wide: true, Value: -1 << 31}, []byte{141, 0, 0, 0, 128}},
	{api.Code{Op: api.CodeIf, A: 6, Value: 5}, []byte{14, 6, 5}},
	{api.Code{Op: api.CodeIf, Wide: true, A: 6, Value: 300}, []byte{142, 6, 44, 1, 0, 0}},
	{api.Code{Op: api.CodeUnless, A: 6, Value: -5}, []byte{15, 6, 251}},
	{api.Code{Op: api.CodeUnless, Wide: true, A: 6, Value: 1<<31 - 1}, []byte{143, 6, 255, 255, 255, 127}},
	{api.Code{Op: api.CodeReturn, A: 3}, []byte{16, 3}},
	{api.Code{Op: api.CodeCount, Value: 0x0102}, []byte{17, 2, 1}},
	{api.Code{Op: api.CodeCount, Value: 4095}, []byte{17, 255, 15}},
	{api.Code{Op: api.CodeFunc, Dst: 3, Value: 63}, []byte{18, 3, 63}},
}

// isWritten demands the bytes of an instruction that has only what its Op has.
func isWritten(t *testing.T, c api.Code, want []byte) {
	t.Helper()
	before := fmt.Sprint(c)
	b, e := Encode(c)
	if e != api.OK || !slices.Equal(b, want) {
		t.Errorf("%v: %v, %d, not %v", c, b, e, want)
	}
	if got := Size(c); got != len(want) {
		t.Errorf("%v: size %d, not %d", c, got, len(want))
	}
	for _, head := range [][]byte{nil, {0}, {255, 99, 3}} {
		for _, tail := range [][]byte{nil, {0}, {255, 255, 255, 255, 255, 255, 255, 255}} {
			all := slices.Concat(head, want, tail)
			d, size, e := Decode(all[:len(all):len(all)], len(head))
			if !Same(d, c) || size != len(want) || e != api.OK {
				t.Errorf("%v: %v, %d, %d, not %v", all, d, size, e, c)
			}
		}
	}
	if after := fmt.Sprint(c); after != before {
		t.Errorf("%s, not %s", after, before)
	}
}

func TestKnown(t *testing.T) {
	for _, x := range known {
		isWritten(t, x.c, x.b)
		if got := written(x.c); !slices.Equal(got, x.b) {
			t.Errorf("%v: %v, not %v", x.c, got, x.b)
		}
	}
}

func TestMostArgs(t *testing.T) {
	var args []int
	var bytes []byte
	for slot := range 250 {
		args, bytes = append(args, slot), append(bytes, byte(slot))
	}
	isWritten(t, api.Code{Op: api.CodeCall, Dst: 1, Value: 2, Args: args}, append([]byte{11, 1, 2, 0, 0, 0, 250}, bytes...))
	isWritten(t, api.Code{Op: api.CodeCallValue, Dst: 1, A: 2, Args: args}, append([]byte{12, 1, 2, 250}, bytes...))
}

// TestEveryDistance has each distance of jumps that are not Wide, and Wide ones around the bounds of each number of bytes.
func TestEveryDistance(t *testing.T) {
	for _, op := range []int{api.CodeJump, api.CodeIf, api.CodeUnless} {
		for distance := -128; distance < 128; distance++ {
			c := api.Code{Op: op, Value: distance}
			isWritten(t, c, written(c))
		}
		for bit := range 32 {
			for _, distance := range []int{1<<bit - 1, 1 << bit, -1 << bit, -1<<bit - 1} {
				c := api.Code{Op: op, Wide: true, Value: distance}
				if bit < 31 || distance == 1<<31-1 || distance == -1<<31 {
					isWritten(t, c, written(c))
				}
			}
		}
	}
}

func TestRandomInstructions(t *testing.T) {
	m := newMaker(1)
	for _, op := range ops() {
		for range 400 {
			c := clean(m.code(op))
			isWritten(t, c, written(c))
		}
	}
}

// TestFieldsThatAnOpDoesNotHave have anything in them, and make no difference.
func TestFieldsThatAnOpDoesNotHave(t *testing.T) {
	m := newMaker(2)
	for _, op := range ops() {
		for range 400 {
			c := m.code(op)
			if e := Check(c); e != api.OK {
				t.Fatalf("%v: error %d", c, e)
			}
			b, e := Encode(c)
			if want := written(clean(c)); e != api.OK || !slices.Equal(b, want) || Size(c) != len(want) {
				t.Fatalf("%v: %v, %d, not %v", c, b, e, want)
			}
			if d, _, e := Decode(b, 0); !Same(d, clean(c)) || e != api.OK {
				t.Fatalf("%v: %v, %d, not %v", b, d, e, clean(c))
			}
		}
	}
}

// TestMemory looks whether what was encoded or decoded is memory of its own, and whether room behind slices is left alone.
func TestMemory(t *testing.T) {
	args := []int{1, 2, 300, -1}
	c := api.Code{Op: api.CodeCallValue, Dst: 3, A: 4, Args: args[:2]}
	b, _ := Encode(c)
	b = append(b, 77, 77)
	d, size, e := Decode(b[:6], 0)
	if e != api.OK || size != 6 || !Same(c, d) || Size(c) != 6 || Check(c) != api.OK {
		t.Errorf("%v, %d, %d", d, size, e)
	}
	_ = append(d.Args, 9, 9, 9)
	d.Args[0] = 9
	if fmt.Sprint(b, args) != "[12 3 4 2 1 2 77 77] [1 2 300 -1]" {
		t.Errorf("%v, %v", b, args)
	}
	clear(b)
	if fmt.Sprint(args, d.Args) != "[1 2 300 -1] [9 2]" {
		t.Errorf("%v, %v", args, d.Args)
	}
}
