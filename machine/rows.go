package machine

import "warmpath/api"

// The letters of the fields that can stand behind the first byte of an instruction. Args has its length ahead of it.
const (
	fieldDst   = 'd'
	fieldA     = 'a'
	fieldB     = 'b'
	fieldArith = 'o'
	fieldValue = 'v'
	fieldArgs  = 'l'
)

// row is what an Op has behind its first byte: its fields, how many bytes its Value takes, and the greatest Value.
type row struct {
	fields         string
	size, greatest int
}

// signed is the greatest Value of an Op that has all numbers, also those below 0, which its bytes can hold.
const signed = -1

// rows has a row for each Op. Values are from 0 on, if they are not signed.
var rows = [...]row{
	api.CodeConst:     {"dv", 8, signed},
	api.CodeMove:      {fields: "da"},
	api.CodeUnary:     {fields: "oda"},
	api.CodeBinary:    {fields: "odab"},
	api.CodeLoad:      {"dv", 1, api.MaxGlobals - 1},
	api.CodeStore:     {"av", 1, api.MaxGlobals - 1},
	api.CodeElement:   {"dav", 1, api.MaxGlobals - 1},
	api.CodeSet:       {"abv", 1, api.MaxGlobals - 1},
	api.CodeRead:      {fields: "d"},
	api.CodePrint:     {fields: "a"},
	api.CodeCall:      {"dvl", 4, api.MaxImage},
	api.CodeCallValue: {fields: "dal"},
	api.CodeJump:      {"v", 1, signed},
	api.CodeIf:        {"av", 1, signed},
	api.CodeUnless:    {"av", 1, signed},
	api.CodeReturn:    {fields: "a"},
	api.CodeCount:     {"v", 2, api.MaxCounters - 1},
	api.CodeFunc:      {"dv", 1, api.MaxFuncs - 1},
}

// wideSize is how many bytes the Value of a Wide jump takes.
const wideSize = 4

// isOp reports whether there is an Op, and, if it is to be Wide, whether it can be.
func isOp(op int, wide bool) bool {
	if wide {
		return isJump(op)
	}
	return within(op, api.CodeConst, api.CodeFunc)
}

func isJump(op int) bool {
	return op == api.CodeJump || op == api.CodeIf || op == api.CodeUnless
}

// number returns the field of an instruction that has a letter and is one number.
func number(c *api.Code, field rune) *int {
	switch field {
	case fieldDst:
		return &c.Dst
	case fieldA:
		return &c.A
	case fieldB:
		return &c.B
	case fieldArith:
		return &c.Arith
	}
	return &c.Value
}

// width returns how many bytes the number of a field takes; of Args, its length. An instruction that is Wide is a jump.
func width(c api.Code, field rune) int {
	switch {
	case field != fieldValue:
		return 1
	case c.Wide:
		return wideSize
	}
	return rows[c.Op].size
}

// values returns the least and the greatest Value of an instruction that has one.
func values(c api.Code) (least, greatest int) {
	if greatest = rows[c.Op].greatest; greatest != signed {
		return 0, greatest
	}
	least = -1 << (8*width(c, fieldValue) - 1)
	return least, ^least
}
