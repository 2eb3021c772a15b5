package machine

import (
	"encoding/binary"
	"fmt"
	"slices"
	"testing"

	"warmpath/api"
)

// isRead demands what Decode returns.
func isRead(t *testing.T, b []byte, at int, c api.Code, size int, e api.Errno) {
	t.Helper()
	before := fmt.Sprint(b)
	gotCode, gotSize, got := Decode(b, at)
	if !Same(gotCode, c) || gotSize != size || got != e {
		t.Errorf("%s at %d: %v, %d, %d, not %v, %d, %d", before, at, gotCode, gotSize, got, c, size, e)
	}
	if after := fmt.Sprint(b); after != before {
		t.Errorf("%s, not %s", after, before)
	}
}

// isRefused demands an error of Decode, without anything else.
func isRefused(t *testing.T, b []byte, at int, e api.Errno) {
	t.Helper()
	isRead(t, b[:len(b):len(b)], at, api.Code{}, 0, e)
}

func TestIndices(t *testing.T) {
	b := []byte{2, 1, 2, 16, 3}
	isRead(t, b, 0, api.Code{Op: api.CodeMove, Dst: 1, A: 2}, 3, api.OK)
	isRead(t, b, 3, api.Code{Op: api.CodeReturn, A: 3}, 2, api.OK)
	// An instruction can begin at any byte.
	isRead(t, b, 2, api.Code{Op: api.CodeMove, Dst: 16, A: 3}, 3, api.OK)
	isRefused(t, b, 1, api.ErrShort)
	isRefused(t, b, 4, api.ErrShort)
	for _, at := range []int{5, 6, 1000, greatest} {
		isRefused(t, b, at, api.ErrShort)
	}
	for _, at := range []int{-1, -5, smallest} {
		isRefused(t, b, at, api.ErrRange)
		isRefused(t, nil, at, api.ErrRange)
	}
	isRefused(t, nil, 0, api.ErrShort)
	isRefused(t, []byte{}, 1, api.ErrShort)
}

// TestFirstBytes has no more than the first byte, and then enough zeros for all instructions. An Op that there is not, also with 128, is one with any number of bytes behind it.
func TestFirstBytes(t *testing.T) {
	for x := range 256 {
		b := append([]byte{byte(x)}, make([]byte, 300)...)
		if _, known := shapes[x]; !known {
			for size := 1; size <= len(b); size++ {
				isRefused(t, b[:size], 0, api.ErrOp)
				isRefused(t, slices.Concat([]byte{9, 130}, b[:size]), 2, api.ErrOp)
			}
			continue
		}
		isRefused(t, b[:1], 0, api.ErrShort)
		isRefused(t, []byte{9, 130, byte(x)}, 2, api.ErrShort)
		if x == api.CodeUnary || x == api.CodeBinary {
			isRefused(t, b, 0, api.ErrOp)
			continue
		}
		c := api.Code{Op: x % 128, Wide: x >= 128}
		isRead(t, b, 0, c, len(written(c)), api.OK)
	}
}

// TestBeginnings has each beginning of instructions, also of ones that are wrong: it is short, whatever is wrong in it.
func TestBeginnings(t *testing.T) {
	m := newMaker(4)
	for _, op := range ops() {
		for range 60 {
			b := written(clean(m.code(op)))
			for size := 1; size < len(b); size++ {
				isRefused(t, b[:size], 0, api.ErrShort)
			}
		}
	}
	for _, b := range [][]byte{
		{3, 99, 250, 250}, {4, 2, 250, 250, 250}, {5, 250, 32}, {11, 250, 255, 255, 255, 255, 2, 250, 250}, {12, 250, 250, 1, 250}, {142, 250, 1, 2, 3, 4},
	} {
		for size := 1; size < len(b); size++ {
			isRefused(t, b[:size], 0, api.ErrShort)
		}
		if _, _, e := Decode(b, 0); e == api.OK || e == api.ErrShort {
			t.Errorf("%v: %d", b, e)
		}
	}
}

func TestWrongBytes(t *testing.T) {
	many := slices.Concat([]byte{12, 1, 2, 251}, make([]byte, 251))
	most := slices.Concat([]byte{11, 1, 0, 0, 0, 0, 255}, make([]byte, 255))
	for _, x := range []struct {
		b []byte
		e api.Errno
	}{
		{[]byte{3, 0, 1, 2}, api.ErrOp}, {[]byte{3, 3, 1, 2}, api.ErrOp}, {[]byte{4, 2, 1, 2, 3}, api.ErrOp}, {[]byte{4, 12, 1, 2, 3}, api.ErrOp}, {[]byte{4, 131, 1, 2, 3}, api.ErrOp},
		{[]byte{3, 3, 250, 2}, api.ErrOp}, {[]byte{130, 250, 2}, api.ErrOp}, {[]byte{144, 2}, api.ErrOp}, {[]byte{133, 250, 99}, api.ErrOp}, {[]byte{139, 1, 0, 0, 0, 0, 0}, api.ErrOp},
		{[]byte{2, 250, 2}, api.ErrRegister}, {[]byte{2, 1, 255}, api.ErrRegister}, {[]byte{1, 250, 0, 0, 0, 0, 0, 0, 0, 0}, api.ErrRegister}, {[]byte{5, 250, 32}, api.ErrRegister}, {[]byte{14, 250, 0}, api.ErrRegister},
		{[]byte{11, 0, 255, 255, 255, 255, 1, 250}, api.ErrRegister}, {[]byte{12, 0, 0, 3, 1, 255, 1}, api.ErrRegister}, {many, api.ErrRegister}, {most, api.ErrRegister}, {many[:len(many)-1], api.ErrShort}, {most[:len(most)-1], api.ErrShort},
		{[]byte{5, 1, 32}, api.ErrRange}, {[]byte{6, 1, 255}, api.ErrRange}, {[]byte{7, 1, 2, 32}, api.ErrRange}, {[]byte{8, 1, 2, 32}, api.ErrRange}, {[]byte{18, 1, 64}, api.ErrRange}, {[]byte{17, 0, 16}, api.ErrRange}, {[]byte{17, 255, 255}, api.ErrRange},
		{[]byte{11, 0, 1, 0, 16, 0, 0}, api.ErrRange}, {[]byte{11, 0, 255, 255, 255, 255, 0}, api.ErrRange}, {[]byte{11, 0, 0, 0, 0, 128, 0}, api.ErrRange},
	} {
		isRefused(t, x.b, 0, x.e)
		isRefused(t, slices.Concat([]byte{7, 7}, x.b), 2, x.e)
	}
}

// understood reads bytes by the words of P12.3: the fields of a row one after another, whatever is in them, and then Check.
func understood(b []byte) (c api.Code, size int, e api.Errno) {
	if len(b) == 0 {
		return c, 0, api.ErrShort
	}
	s, known := shapes[int(b[0])]
	if !known {
		return c, 0, api.ErrOp
	}
	c = api.Code{Op: int(b[0] &^ 128), Wide: b[0] > 127}
	at := 1
	next := func(n int) uint64 {
		var word [8]byte
		if at <= len(b) {
			copy(word[:n], b[at:])
		}
		at += n
		return binary.LittleEndian.Uint64(word[:])
	}
	if s.to > 0 {
		c.Arith = int(next(1))
	}
	for _, slot := range slotFields(&c, s) {
		*slot = int(next(1))
	}
	if s.value {
		c.Value = int(next(s.bytes))
	}
	switch {
	case s.least < 0 && s.bytes == 1:
		c.Value = int(int8(c.Value))
	case s.least < 0 && s.bytes == 4:
		c.Value = int(int32(c.Value))
	}
	if s.args {
		c.Args = make([]int, next(1))
		for i := range c.Args {
			c.Args[i] = int(next(1))
		}
	}
	if at > len(b) {
		return api.Code{}, 0, api.ErrShort
	}
	if e := firstError(c); e != api.OK {
		return api.Code{}, 0, e
	}
	return c, at, api.OK
}

func TestRandomBytes(t *testing.T) {
	m := newMaker(5)
	seen := map[api.Errno]int{}
	for range 200000 {
		b := make([]byte, m.Intn(16))
		m.Read(b)
		for i := range b {
			switch m.Intn(10) {
			case 0, 1, 2, 3, 4:
				b[i] = byte(m.Intn(20))
			case 5:
				b[i] = byte(249 + m.Intn(3))
			}
		}
		at := m.Intn(len(b) + 2)
		c, size, e := understood(b[min(at, len(b)):])
		isRead(t, b, at, c, size, e)
		seen[e]++
		if e == api.OK && !slices.Equal(written(c), b[at:at+size]) {
			t.Fatalf("%v at %d: %v", b, at, c)
		}
	}
	for _, e := range []api.Errno{api.OK, api.ErrShort, api.ErrOp, api.ErrRegister, api.ErrRange} {
		if seen[e] < 1000 {
			t.Errorf("error %d: only %d times", e, seen[e])
		}
	}
}

// TestChangedBytes has right instructions in which one byte is another one, and code behind them.
func TestChangedBytes(t *testing.T) {
	m := newMaker(6)
	for _, op := range ops() {
		for range 60 {
			b := written(clean(m.code(op)))
			b = append(b, b...)
			for range 60 {
				at := m.Intn(len(b))
				old := b[at]
				b[at] = byte(m.any())
				c, size, e := understood(b)
				isRead(t, b, 0, c, size, e)
				b[at] = old
			}
		}
	}
}

// TestSequence reads code from one instruction to the next one.
func TestSequence(t *testing.T) {
	m := newMaker(7)
	var b []byte
	var want []api.Code
	for range 2000 {
		c := clean(m.code(ops()[m.Intn(len(shapes))]))
		more, _ := Encode(c)
		b, want = append(b, more...), append(want, c)
	}
	at := 0
	for _, c := range want {
		d, size, e := Decode(b, at)
		if !Same(c, d) || size != Size(c) || e != api.OK {
			t.Fatalf("at %d: %v, %d, %d, not %v", at, d, size, e, c)
		}
		at += size
	}
	isRefused(t, b, at, api.ErrShort)
}
