package machine

import (
	"encoding/binary"
	"math/rand"
	"slices"

	"warmpath/api"
)

const (
	smallest = -1 << 63
	greatest = 1<<63 - 1
)

// shape is what the document's table and P12.1 say of an Op.
type shape struct {
	slots       string // those of Dst, A and B that it has
	from, to    int    // its operations
	least, most int    // its Value
	value, args bool   // whether it has them
	bytes       int    // of Value
}

// shapes has all Ops by their numbers, 128 more for Wide ones.
var shapes = map[int]shape{
	1:   {slots: "D", least: smallest, most: greatest, value: true, bytes: 8},
	2:   {slots: "DA"},
	3:   {slots: "DA", from: 1, to: 2},
	4:   {slots: "DAB", from: 3, to: 11},
	5:   {slots: "D", most: 31, value: true, bytes: 1},
	6:   {slots: "A", most: 31, value: true, bytes: 1},
	7:   {slots: "DA", most: 31, value: true, bytes: 1},
	8:   {slots: "AB", most: 31, value: true, bytes: 1},
	9:   {slots: "D"},
	10:  {slots: "A"},
	11:  {slots: "D", most: 1048576, value: true, bytes: 4, args: true},
	12:  {slots: "DA", args: true},
	13:  {least: -128, most: 127, value: true, bytes: 1},
	14:  {slots: "A", least: -128, most: 127, value: true, bytes: 1},
	15:  {slots: "A", least: -128, most: 127, value: true, bytes: 1},
	16:  {slots: "A"},
	17:  {most: 4095, value: true, bytes: 2},
	18:  {slots: "D", most: 63, value: true, bytes: 1},
	141: {least: -2147483648, most: 2147483647, value: true, bytes: 4},
	142: {slots: "A", least: -2147483648, most: 2147483647, value: true, bytes: 4},
	143: {slots: "A", least: -2147483648, most: 2147483647, value: true, bytes: 4},
}

// first is the first byte of an instruction, if it has an Op.
func first(c api.Code) int {
	if c.Wide {
		return c.Op + 128
	}
	return c.Op
}

// ops are the keys of shapes, ascending.
func ops() (l []int) {
	for op := range shapes {
		l = append(l, op)
	}
	slices.Sort(l)
	return l
}

// slotFields are pointers to the fields that an Op has as slots, without Args.
func slotFields(c *api.Code, s shape) (l []*int) {
	for _, name := range s.slots {
		l = append(l, map[rune]*int{'D': &c.Dst, 'A': &c.A, 'B': &c.B}[name])
	}
	return l
}

// clean is an instruction without what its Op does not have.
func clean(c api.Code) api.Code {
	s := shapes[first(c)]
	d := api.Code{Op: c.Op, Wide: c.Wide}
	for i, to := range slotFields(&d, s) {
		*to = *slotFields(&c, s)[i]
	}
	if s.to > 0 {
		d.Arith = c.Arith
	}
	if s.value {
		d.Value = c.Value
	}
	if s.args {
		d.Args = slices.Clone(c.Args)
	}
	return d
}

// firstError is what P12.1 says of an instruction.
func firstError(c api.Code) api.Errno {
	s, known := shapes[first(c)]
	if !known || c.Op > 18 || s.to > 0 && (c.Arith < s.from || c.Arith > s.to) {
		return api.ErrOp
	}
	all := clean(c).Args
	for _, slot := range slotFields(&c, s) {
		all = append(all, *slot)
	}
	for _, slot := range all {
		if slot < 0 || slot > 249 {
			return api.ErrRegister
		}
	}
	if s.args && len(c.Args) > 250 {
		return api.ErrRegister
	}
	if s.value && (c.Value < s.least || c.Value > s.most) {
		return api.ErrRange
	}
	return api.OK
}

// little is a number with its least significant byte first.
func little(n, size int) []byte {
	return binary.LittleEndian.AppendUint64(nil, uint64(n))[:size]
}

// written is the bytes of a right instruction, as the rows of the document's table have them.
func written(c api.Code) []byte {
	short := 1
	if c.Wide {
		short = 4
	}
	args := []byte{byte(len(c.Args))}
	for _, slot := range c.Args {
		args = append(args, byte(slot))
	}
	arith, dst, a, b := byte(c.Arith), byte(c.Dst), byte(c.A), byte(c.B)
	parts := map[int][][]byte{
		1:  {{dst}, little(c.Value, 8)},
		2:  {{dst, a}},
		3:  {{arith, dst, a}},
		4:  {{arith, dst, a, b}},
		5:  {{dst}, little(c.Value, 1)},
		6:  {{a}, little(c.Value, 1)},
		7:  {{dst, a}, little(c.Value, 1)},
		8:  {{a, b}, little(c.Value, 1)},
		9:  {{dst}},
		10: {{a}},
		11: {{dst}, little(c.Value, 4), args},
		12: {{dst, a}, args},
		13: {little(c.Value, short)},
		14: {{a}, little(c.Value, short)},
		15: {{a}, little(c.Value, short)},
		16: {{a}},
		17: {little(c.Value, 2)},
		18: {{dst}, little(c.Value, 1)},
	}[c.Op]
	return slices.Concat([]byte{byte(first(c))}, slices.Concat(parts...))
}

// maker makes random instructions.
type maker struct{ *rand.Rand }

func newMaker(seed int64) maker { return maker{rand.New(rand.NewSource(seed))} }

// any is a number for a field that does not matter, or is wrong.
func (m maker) any() int {
	l := []int{0, 1, 2, -1, 31, 32, 63, 64, 127, 128, -128, -129, 249, 250, 255, 256, 4095, 4096, 1 << 20, 1<<20 + 1, 1<<31 - 1, 1 << 31, -1 << 31, -1<<31 - 1, smallest, greatest}
	return l[m.Intn(len(l))]
}

// between is a number within two bounds, often one of them.
func (m maker) between(least, most int) int {
	switch m.Intn(4) {
	case 0:
		return least
	case 1:
		return most
	case 2:
		return min(max(m.any(), least), most)
	}
	return least + int(m.Uint64()%(uint64(most)-uint64(least)|1))
}

func (m maker) slot() int { return m.between(0, 249) }

func (m maker) args(most int) (l []int) {
	for range m.Intn(most + 1) {
		l = append(l, m.slot())
	}
	return l
}

// code is a right instruction with anything in the fields that its Op does not have.
func (m maker) code(op int) api.Code {
	s := shapes[op]
	c := api.Code{Op: op % 128, Wide: op >= 128, Arith: m.any(), Dst: m.any(), A: m.any(), B: m.any(), Value: m.any()}
	for range m.Intn(4) {
		c.Args = append(c.Args, m.any())
	}
	for _, slot := range slotFields(&c, s) {
		*slot = m.slot()
	}
	if s.to > 0 {
		c.Arith = m.between(s.from, s.to)
	}
	if s.value {
		c.Value = m.between(s.least, s.most)
	}
	if s.args {
		c.Args = m.args([]int{0, 1, 6, 250}[m.Intn(4)])
	}
	return c
}
