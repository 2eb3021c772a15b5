package codec

import (
	"bytes"
	"math"
	"math/rand"
	"testing"

	"warmpath/api"
)

// join returns new memory without spare capacity, so that a read beyond the end would panic.
func join(parts ...[]byte) []byte {
	l := bytes.Join(parts, nil)
	return l[:len(l):len(l)]
}

// repeated is n bytes x.
func repeated(x byte, n int) []byte { return bytes.Repeat([]byte{x}, n) }

// numbers are the borders of all lengths, and numbers of all sizes.
func numbers() []uint64 {
	r := rand.New(rand.NewSource(1))
	l := []uint64{0, 1, 2, 300, math.MaxInt64, 1 << 63, math.MaxUint64 - 1, math.MaxUint64}
	for bit := range 64 {
		n := uint64(1) << bit
		l = append(l, n-1, n, n+1)
		for range 8 {
			l = append(l, r.Uint64()>>bit)
		}
	}
	return l
}

// leastBytes is in how many groups of 7 bits a number can be written.
func leastBytes(n uint64) int {
	size := 1
	for n /= 128; n > 0; n /= 128 {
		size++
	}
	return size
}

func TestPutUintWritesGroupsLeastFirst(t *testing.T) {
	for _, x := range []struct {
		n    uint64
		want []byte
	}{
		{0, []byte{0}},
		{1, []byte{1}},
		{127, []byte{0x7f}},
		{128, []byte{0x80, 1}},
		{300, []byte{0xac, 2}},
		{1<<14 - 1, []byte{0xff, 0x7f}},
		{1 << 14, []byte{0x80, 0x80, 1}},
		{1<<63 - 1, join(repeated(0xff, 8), []byte{0x7f})},
		{1 << 63, join(repeated(0x80, 9), []byte{1})},
		{math.MaxUint64, join(repeated(0xff, 9), []byte{1})},
	} {
		if got := PutUint(nil, x.n); !bytes.Equal(got, x.want) {
			t.Errorf("%d: %x, not %x", x.n, got, x.want)
		}
	}
}

func TestPutUintIsShortest(t *testing.T) {
	for _, n := range numbers() {
		got := PutUint(nil, n)
		if len(got) != leastBytes(n) {
			t.Errorf("%d: %d bytes, not %d", n, len(got), leastBytes(n))
		}
		for i, x := range got {
			if last := i == len(got)-1; last != (x < 128) {
				t.Errorf("%d: byte %d of %x", n, i, got)
			}
		}
	}
}

func TestShorterNumberHasNoLongerEncoding(t *testing.T) {
	for _, n := range numbers() {
		if n > 0 && len(PutUint(nil, n-1)) > len(PutUint(nil, n)) {
			t.Errorf("%d is longer than %d", n-1, n)
		}
	}
}

func TestUintUndoesPutUint(t *testing.T) {
	for _, n := range numbers() {
		for _, tail := range [][]byte{nil, {0}, {0x80}, repeated(0xff, 12)} {
			b := PutUint(nil, n)
			got, size, e := Uint(join(b, tail))
			if got != n || size != len(b) || e != api.OK {
				t.Errorf("%d, then %x: %d, %d, %d", n, tail, got, size, e)
			}
		}
	}
}

// refusal is bytes that are refused, and the error that says why.
type refusal struct {
	name string
	b    []byte
	want api.Errno
}

// broken are bytes with which no number begins.
func broken() []refusal {
	return []refusal{
		{"no byte", nil, api.ErrShort},
		{"one byte that goes on", []byte{0x80}, api.ErrShort},
		{"9 bytes that go on", repeated(0xff, 9), api.ErrShort},
		{"9 bytes 128", repeated(0x80, 9), api.ErrShort},
		{"10 bytes that go on", repeated(0xff, 10), api.ErrForm},
		{"10 bytes 128", repeated(0x80, 10), api.ErrForm},
		{"11 bytes that go on", repeated(0xff, 11), api.ErrForm},
		{"10 bytes that go on, then an end", join(repeated(0x80, 10), []byte{1}), api.ErrForm},
		{"2^64", join(repeated(0x80, 9), []byte{2}), api.ErrForm},
		{"beyond 2^64 - 1", join(repeated(0xff, 9), []byte{3}), api.ErrForm},
		{"far beyond 2^64 - 1", join(repeated(0xff, 9), []byte{0x7f}), api.ErrForm},
		{"0 in 2 bytes", []byte{0x80, 0}, api.ErrForm},
		{"127 in 2 bytes", []byte{0xff, 0}, api.ErrForm},
		{"0 in 3 bytes", []byte{0x80, 0x80, 0}, api.ErrForm},
		{"127 in 3 bytes", []byte{0xff, 0x80, 0}, api.ErrForm},
		{"2^63 - 1 in 10 bytes", join(repeated(0xff, 9), []byte{0}), api.ErrForm},
	}
}

func TestUintRefuses(t *testing.T) {
	for _, x := range broken() {
		if n, size, e := Uint(join(x.b)); n != 0 || size != 0 || e != x.want {
			t.Errorf("%s: %d, %d, %d, not %d", x.name, n, size, e, x.want)
		}
	}
}

func TestUintRefusesEveryLongerEncoding(t *testing.T) {
	for _, n := range numbers() {
		b := PutUint(nil, n)
		for len(b) < 10 {
			b[len(b)-1] |= 128
			b = append(b, 0)
			if got, size, e := Uint(b); got != 0 || size != 0 || e != api.ErrForm {
				t.Errorf("%d as %x: %d, %d, %d", n, b, got, size, e)
			}
		}
	}
}

func TestUintOfEveryBeginning(t *testing.T) {
	for _, n := range numbers() {
		b := PutUint(nil, n)
		for size := range b {
			if got, length, e := Uint(join(b[:size])); got != 0 || length != 0 || e != api.ErrShort {
				t.Errorf("%d bytes of %x: %d, %d, %d", size, b, got, length, e)
			}
		}
	}
}

func TestPutIntAlternatesSigns(t *testing.T) {
	for _, x := range []struct {
		n    int
		want []byte
	}{
		{0, []byte{0}},
		{-1, []byte{1}},
		{1, []byte{2}},
		{-2, []byte{3}},
		{63, []byte{0x7e}},
		{-64, []byte{0x7f}},
		{64, []byte{0x80, 1}},
		{-65, []byte{0x81, 1}},
		{math.MaxInt, join([]byte{0xfe}, repeated(0xff, 8), []byte{1})},
		{math.MinInt, join(repeated(0xff, 9), []byte{1})},
	} {
		if got := PutInt(nil, x.n); !bytes.Equal(got, x.want) {
			t.Errorf("%d: %x, not %x", x.n, got, x.want)
		}
	}
}

func TestIntUndoesPutInt(t *testing.T) {
	for _, u := range numbers() {
		for _, n := range []int{int(u), -int(u)} {
			for _, tail := range [][]byte{nil, {0}, {0x80}, repeated(0xff, 12)} {
				b := PutInt(nil, n)
				got, size, e := Int(join(b, tail))
				if got != n || size != len(b) || e != api.OK {
					t.Errorf("%d, then %x: %d, %d, %d", n, tail, got, size, e)
				}
			}
		}
	}
}

func TestIntRefuses(t *testing.T) {
	for _, x := range broken() {
		if n, size, e := Int(join(x.b)); n != 0 || size != 0 || e != x.want {
			t.Errorf("%s: %d, %d, %d, not %d", x.name, n, size, e, x.want)
		}
	}
}

// appended are the functions that append, each with something to append.
func appended() map[string]func([]byte) []byte {
	return map[string]func([]byte) []byte{
		"PutUint": func(b []byte) []byte { return PutUint(b, math.MaxUint64) },
		"PutInt":  func(b []byte) []byte { return PutInt(b, -1) },
		"PutFrame": func(b []byte) []byte {
			l, _ := PutFrame(b, []byte("abc"))
			return l
		},
		"PutFrame of nothing": func(b []byte) []byte {
			l, _ := PutFrame(b, nil)
			return l
		},
	}
}

func TestAppendingKeepsWhatIsThere(t *testing.T) {
	for name, put := range appended() {
		alone := put(nil)
		if len(alone) == 0 {
			t.Errorf("%s: nothing", name)
		}
		for _, head := range [][]byte{{}, {7}, {1, 2, 3}, repeated(0xff, 100)} {
			if got := put(join(head)); !bytes.Equal(got, join(head, alone)) {
				t.Errorf("%s behind %x: %x", name, head, got)
			}
		}
	}
}

func TestAppendingLeavesArgumentAndItsRoom(t *testing.T) {
	for name, put := range appended() {
		whole := repeated(0x55, 64)
		got := put(whole[:3])
		if !bytes.Equal(whole, repeated(0x55, 64)) {
			t.Errorf("%s: the argument is now %x", name, whole)
		}
		clear(got)
		if !bytes.Equal(whole, repeated(0x55, 64)) {
			t.Errorf("%s: the result shares memory with the argument", name)
		}
	}
}
