package codec

import (
	"bytes"
	"math"
	"math/rand"
	"testing"

	"warmpath/api"
)

// abc is the frame of the letters abc.
func abc() []byte { return []byte{3, 'a', 'b', 'c', 0xc2, 0x41, 0x24, 0x35} }

// framed is the frame of a payload that is not too long.
func framed(t *testing.T, payload []byte) []byte {
	t.Helper()
	b, e := PutFrame(nil, payload)
	if e != api.OK {
		t.Fatalf("a frame of %d bytes: %d", len(payload), e)
	}
	return b
}

// refuses checks that Frame returns an error, and nothing beside it.
func refuses(t *testing.T, name string, b []byte, want api.Errno) {
	t.Helper()
	if payload, size, e := Frame(join(b)); len(payload) != 0 || size != 0 || e != want {
		t.Errorf("%s: %d bytes, %d, %d, not %d", name, len(payload), size, e, want)
	}
}

func TestPutFrameWritesLengthPayloadAndChecksum(t *testing.T) {
	if got := framed(t, []byte("abc")); !bytes.Equal(got, abc()) {
		t.Errorf("abc: %x", got)
	}
	if got := framed(t, nil); !bytes.Equal(got, make([]byte, 5)) {
		t.Errorf("nothing: %x", got)
	}
	payload := repeated(9, 300)
	sum := bitwise(payload)
	want := join([]byte{0xac, 2}, payload, []byte{byte(sum), byte(sum >> 8), byte(sum >> 16), byte(sum >> 24)})
	if got := framed(t, payload); !bytes.Equal(got, want) {
		t.Errorf("300 bytes: %x", got)
	}
}

func TestPutFrameLimit(t *testing.T) {
	if got := framed(t, make([]byte, 65535)); len(got) != 3+65535+4 {
		t.Errorf("65535 bytes: a frame of %d", len(got))
	}
	for _, size := range []int{65536, 65537, 1 << 17} {
		if got, e := PutFrame([]byte{1}, make([]byte, size)); len(got) != 0 || e != api.ErrLimit {
			t.Errorf("%d bytes: a frame of %d, %d", size, len(got), e)
		}
	}
}

func TestFrameUndoesPutFrame(t *testing.T) {
	r := rand.New(rand.NewSource(3))
	for _, size := range []int{0, 1, 2, 127, 128, 129, 1000, 16383, 16384, 65534, 65535} {
		payload := make([]byte, size)
		r.Read(payload)
		b := framed(t, payload)
		for _, tail := range [][]byte{nil, {0}, {0xff, 0xff}, abc()} {
			got, length, e := Frame(join(b, tail))
			if !bytes.Equal(got, payload) || length != len(b) || e != api.OK {
				t.Errorf("%d bytes, then %x: %d, %d, %d", size, tail, len(got), length, e)
			}
		}
	}
}

func TestFrameRefusesLengths(t *testing.T) {
	for _, x := range broken() {
		refuses(t, x.name, x.b, x.want)
	}
	refuses(t, "a length that is not the shortest one", join([]byte{0x83, 0}, abc()[1:]), api.ErrForm)
}

func TestFrameRefusesLongPayloads(t *testing.T) {
	for _, n := range []uint64{65536, 1 << 20, 1 << 31, 1 << 32, 1<<32 + 3, math.MaxInt64, 1 << 63, math.MaxUint64 - 3, math.MaxUint64} {
		refuses(t, "a long frame without its payload", PutUint(nil, n), api.ErrLimit)
		refuses(t, "a long frame", join(PutUint(nil, n), abc()[1:]), api.ErrLimit)
	}
	payload := make([]byte, 65536)
	sum := bitwise(payload)
	whole := join(PutUint(nil, 65536), payload, []byte{byte(sum), byte(sum >> 8), byte(sum >> 16), byte(sum >> 24)})
	refuses(t, "a whole frame of 65536 bytes", whole, api.ErrLimit)
	refuses(t, "65535 bytes that are not there", PutUint(nil, 65535), api.ErrShort)
}

func TestFrameRefusesEveryBeginning(t *testing.T) {
	for _, payload := range [][]byte{nil, []byte("abc"), repeated(1, 200)} {
		b := framed(t, payload)
		for size := range b {
			refuses(t, "the beginning of a frame", b[:size], api.ErrShort)
		}
	}
	// What is there does not fit its checksum, but that it ends too early comes first.
	refuses(t, "a damaged beginning", []byte{3, 'x', 'b', 'c', 0xc2, 0x41, 0x24}, api.ErrShort)
}

func TestFrameNoticesChanges(t *testing.T) {
	for at := 1; at < len(abc()); at++ {
		for change := 1; change < 256; change++ {
			b := abc()
			b[at] ^= byte(change)
			refuses(t, "another byte", b, api.ErrSum)
		}
	}
	long := framed(t, repeated(0x33, 65535))
	for at := 3; at < len(long); at += 5003 {
		b := bytes.Clone(long)
		b[at]++
		refuses(t, "another byte of a long frame", b, api.ErrSum)
	}
	refuses(t, "the checksum of another order", []byte{3, 'a', 'b', 'c', 0x35, 0x24, 0x41, 0xc2}, api.ErrSum)
}

func TestFrameLeavesItsArgument(t *testing.T) {
	b := join(abc(), []byte{1, 2})
	payload, _, _ := Frame(b)
	clear(payload)
	clear(payload[:cap(payload)])
	if !bytes.Equal(b, join(abc(), []byte{1, 2})) {
		t.Errorf("the argument is now %x", b)
	}
}

func TestPutFrameLeavesItsPayload(t *testing.T) {
	whole := repeated(0x55, 64)
	b := framed(t, whole[:3])
	clear(b)
	if !bytes.Equal(whole, repeated(0x55, 64)) {
		t.Errorf("the payload is now %x", whole)
	}
}

func TestReadingAnyBytesReturns(t *testing.T) {
	r := rand.New(rand.NewSource(4))
	for range 20000 {
		b := make([]byte, r.Intn(24))
		r.Read(b)
		if len(b) > 0 && r.Intn(2) == 0 {
			b[0] &= 15
		}
		checkFrame(t, b)
		checkUint(t, b)
	}
}

// checkFrame checks that what is read as a frame is written as the same bytes.
func checkFrame(t *testing.T, b []byte) {
	t.Helper()
	payload, size, e := Frame(join(b))
	if e == api.OK && !bytes.Equal(framed(t, payload), b[:size]) {
		t.Errorf("the frame %x is written as another one", b[:size])
	}
}

// checkUint checks that what is read as a number is written as the same bytes.
func checkUint(t *testing.T, b []byte) {
	t.Helper()
	n, size, e := Uint(join(b))
	if e == api.OK && !bytes.Equal(PutUint(nil, n), b[:size]) {
		t.Errorf("the number %x is written as another one", b[:size])
	}
	if i, length, f := Int(join(b)); length != size || f != e || e == api.OK && !bytes.Equal(PutInt(nil, i), b[:size]) {
		t.Errorf("the integer %x: %d, %d, %d", b, i, length, f)
	}
}
