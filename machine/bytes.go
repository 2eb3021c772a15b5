package machine

import "warmpath/api"

// wide is added to the Op of a Wide instruction.
const wide = 128

// Encode returns the bytes of an instruction.
func Encode(c api.Code) ([]byte, api.Errno) {
	if e := Check(c); e != api.OK {
		return nil, e
	}
	b := []byte{byte(c.Op)}
	if c.Wide {
		b[0] += wide
	}
	for _, field := range rows[c.Op].fields {
		if field == fieldArgs {
			b = putArgs(b, c.Args)
		} else {
			b = put(b, *number(&c, field), width(c, field))
		}
	}
	return b, api.OK
}

// put appends the lowest bytes of a number, the least significant one first.
func put(b []byte, n, size int) []byte {
	for range size {
		b = append(b, byte(n))
		n >>= 8
	}
	return b
}

func putArgs(b []byte, args []int) []byte {
	b = append(b, byte(len(args)))
	for _, slot := range args {
		b = append(b, byte(slot))
	}
	return b
}

// Decode returns the instruction at an index.
func Decode(b []byte, at int) (api.Code, int, api.Errno) {
	switch {
	case at < 0:
		return api.Code{}, 0, api.ErrRange
	case at >= len(b):
		return api.Code{}, 0, api.ErrShort
	}
	c := api.Code{Op: int(b[at] % wide), Wide: b[at] >= wide}
	// Bytes that have no Op do not say where an instruction would end, so that they are not short.
	if !isOp(c.Op, c.Wide) {
		return api.Code{}, 0, api.ErrOp
	}
	r := reader{rest: b[at+1:]}
	for _, field := range rows[c.Op].fields {
		r.field(&c, field)
	}
	if r.short {
		return api.Code{}, 0, api.ErrShort
	}
	if e := Check(c); e != api.OK {
		return api.Code{}, 0, e
	}
	return c, len(b) - at - len(r.rest), api.OK
}

// reader takes numbers from bytes. Where they end too early, it is short, and its numbers are 0.
type reader struct {
	rest  []byte
	short bool
}

// field reads a field of an instruction.
func (r *reader) field(c *api.Code, field rune) {
	if field == fieldArgs {
		for range r.unsigned(1) {
			c.Args = append(c.Args, r.unsigned(1))
		}
		return
	}
	size := width(*c, field)
	n := r.unsigned(size)
	if field == fieldValue && rows[c.Op].greatest == signed {
		// The highest bit of the bytes is that of the sign.
		above := 64 - 8*size
		n = n << above >> above
	}
	*number(c, field) = n
}

// unsigned takes a number, with the least significant byte first.
func (r *reader) unsigned(size int) int {
	if len(r.rest) < size {
		r.short = true
		return 0
	}
	n := 0
	for i, x := range r.rest[:size] {
		n |= int(x) << (8 * i)
	}
	r.rest = r.rest[size:]
	return n
}
