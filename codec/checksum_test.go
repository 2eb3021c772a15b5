package codec

import (
	"math/rand"
	"testing"
)

// bitwise is the checksum as the promise describes it, bit by bit.
func bitwise(b []byte) uint32 {
	sum := uint32(0xFFFFFFFF)
	for _, x := range b {
		for bit := range 8 {
			odd := (sum ^ uint32(x>>bit)) & 1
			sum >>= 1
			if odd == 1 {
				sum ^= 0xEDB88320
			}
		}
	}
	return sum ^ 0xFFFFFFFF
}

func TestChecksumOfKnownTexts(t *testing.T) {
	for text, want := range map[string]uint32{
		"":                 0,
		"a":                0xE8B7BE43,
		"abc":              0x352441C2,
		"123456789":        0xCBF43926,
		"\x00":             0xD202EF8D,
		"\xff\xff\xff\xff": 0xFFFFFFFF,
		"The quick brown fox jumps over the lazy dog": 0x414FA339,
	} {
		if got := Checksum([]byte(text)); got != want {
			t.Errorf("%q: %08x, not %08x", text, got, want)
		}
	}
}

func TestChecksumOfEveryByte(t *testing.T) {
	for x := range 256 {
		for _, b := range [][]byte{{byte(x)}, {0, byte(x)}, {byte(x), 0x80}} {
			if got, want := Checksum(b), bitwise(b); got != want {
				t.Errorf("%x: %08x, not %08x", b, got, want)
			}
		}
	}
}

func TestChecksumOfAllLengths(t *testing.T) {
	r := rand.New(rand.NewSource(2))
	for size := range 300 {
		b := make([]byte, size)
		r.Read(b)
		if got, want := Checksum(b), bitwise(b); got != want {
			t.Errorf("%d bytes: %08x, not %08x", size, got, want)
		}
	}
}
