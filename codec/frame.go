package codec

import "warmpath/api"

// PutFrame appends a frame: the length of the payload, the payload, and its checksum.
func PutFrame(b, payload []byte) ([]byte, api.Errno) {
	if len(payload) > maxPayload {
		return nil, api.ErrLimit
	}
	b = PutUint(b, uint64(len(payload)))
	b = append(b, payload...)
	return putSum(b, Checksum(payload)), api.OK
}

// Frame returns the payload of the frame with which b begins, and the length of the frame.
func Frame(b []byte) ([]byte, int, api.Errno) {
	length, start, e := Uint(b)
	if e != api.OK {
		return nil, 0, e
	}
	if length > maxPayload {
		return nil, 0, api.ErrLimit
	}
	end := start + int(length)
	if len(b) < end+sumSize {
		return nil, 0, api.ErrShort
	}
	payload := b[start:end]
	if sumAt(b[end:]) != Checksum(payload) {
		return nil, 0, api.ErrSum
	}
	return append([]byte(nil), payload...), end + sumSize, api.OK
}

// putSum appends a checksum, the least significant byte first.
func putSum(b []byte, sum uint32) []byte {
	for i := range sumSize {
		b = append(b, byte(sum>>(8*i)))
	}
	return b
}

// sumAt is the checksum with which b begins.
func sumAt(b []byte) uint32 {
	var sum uint32
	for i, x := range b[:sumSize] {
		sum |= uint32(x) << (8 * i)
	}
	return sum
}
