// Package codec writes and reads numbers of variable length, checksums and frames.
package codec

import "warmpath/api"

const (
	group   = 7          // bits of a number in a byte
	more    = 1 << group // the bit of a byte that another one follows
	longest = 10         // bytes of the longest number, of 64 bits

	maxPayload = 65535
	sumSize    = 4 // bytes of a checksum in a frame
)

// PutUint appends the encoding of a number.
func PutUint(b []byte, n uint64) []byte {
	b = withoutRoom(b)
	for n >= more {
		b = append(b, byte(n)|more)
		n >>= group
	}
	return append(b, byte(n))
}

// Uint returns the number with whose encoding b begins, and its length in bytes.
func Uint(b []byte) (uint64, int, api.Errno) {
	var n uint64
	for i, x := range b[:min(len(b), longest)] {
		n |= uint64(x&^more) << (group * i)
		if x < more {
			if !canEnd(i, x) {
				return 0, 0, api.ErrForm
			}
			return n, i + 1, api.OK
		}
	}
	if len(b) < longest {
		return 0, 0, api.ErrShort
	}
	return 0, 0, api.ErrForm
}

// canEnd reports whether x can be the last byte of a number, at the index i.
func canEnd(i int, x byte) bool {
	if i == 0 {
		return true
	}
	// Behind 63 bits, only one bit is left of the 64. A last byte 0 says nothing: a shorter encoding would do.
	return x != 0 && (i < longest-1 || x == 1)
}

// PutInt appends the encoding of an integer.
func PutInt(b []byte, n int) []byte {
	// This is 2n, or for a negative n its complement, -2n - 1; no step leaves the 64 bits, even for the least integer.
	return PutUint(b, uint64(n)<<1^uint64(n>>63))
}

// Int returns the integer with whose encoding b begins, and its length in bytes.
func Int(b []byte) (int, int, api.Errno) {
	n, size, e := Uint(b)
	return int(n>>1 ^ -(n & 1)), size, e
}

// withoutRoom is b without its spare capacity, which belongs to the caller: what is appended to it goes to new memory.
func withoutRoom(b []byte) []byte { return b[:len(b):len(b)] }
