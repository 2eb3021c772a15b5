package execute

import (
	"warmpath/api"
	"warmpath/evaluate"
)

// The kinds of executed instructions.
const (
	other       = 0
	jumped      = 1
	passed      = 2
	called      = 3
	returned    = 4
	calledValue = 5
)

// execute does an instruction of the innermost function, which goes on behind it if it says nothing else, and returns its kind.
func (r *run) execute(f *frame, i *instruction) int {
	switch i.Op {
	case api.CodeJump:
		f.next += i.Value
	case api.CodeIf:
		return f.jumpIf(f.slots[i.A] != 0, i.Value)
	case api.CodeUnless:
		return f.jumpIf(f.slots[i.A] == 0, i.Value)
	case api.CodeCall:
		if r.enter(i.callee, i.Args) {
			return called
		}
	case api.CodeCallValue:
		return r.callValue(f.slots[i.A], i.Args)
	case api.CodeReturn:
		r.leave(f.slots[i.A])
		return returned
	default:
		r.do(f.slots, i)
	}
	return other
}

// jumpIf goes on at a distance from the next instruction if a condition holds.
func (f *frame) jumpIf(holds bool, distance int) int {
	if !holds {
		return passed
	}
	f.next += distance
	return jumped
}

// callValue enters the function that has a number, if one that can be called has it and takes these arguments.
func (r *run) callValue(number int, args []int) int {
	if number < 0 || number >= r.image.Callable || r.image.Params[number] != len(args) {
		r.trap(api.TrapValue)
		return other
	}
	if !r.enter(number, args) {
		return other
	}
	return calledValue
}

// do does an instruction that has no influence on which one comes next.
func (r *run) do(slots []int, i *instruction) {
	switch i.Op {
	case api.CodeConst, api.CodeFunc:
		slots[i.Dst] = i.Value
	case api.CodeMove:
		slots[i.Dst] = slots[i.A]
	case api.CodeUnary:
		slots[i.Dst] = evaluate.Unary(i.Arith, slots[i.A])
	case api.CodeBinary:
		r.binary(slots, i)
	case api.CodeLoad:
		slots[i.Dst] = r.globals[i.Value][0]
	case api.CodeStore:
		r.globals[i.Value][0] = slots[i.A]
	case api.CodeElement:
		if r.hasElement(i.Value, slots[i.A]) {
			slots[i.Dst] = r.globals[i.Value][slots[i.A]]
		}
	case api.CodeSet:
		if r.hasElement(i.Value, slots[i.A]) {
			r.globals[i.Value][slots[i.A]] = slots[i.B]
		}
	case api.CodeRead:
		slots[i.Dst] = r.read()
	case api.CodePrint:
		r.print(slots[i.A])
	case api.CodeCount:
		r.counters[i.Value]++
	}
}

func (r *run) binary(slots []int, i *instruction) {
	value, defined := evaluate.Apply(i.Arith, slots[i.A], slots[i.B])
	if !defined {
		r.trap(api.TrapDivide)
		return
	}
	slots[i.Dst] = value
}

// hasElement reports whether an array has an element: if it has none, the run traps.
func (r *run) hasElement(array, index int) bool {
	has := index >= 0 && index < len(r.globals[array])
	if !has {
		r.trap(api.TrapIndex)
	}
	return has
}

// read is the next number of the input.
func (r *run) read() int {
	if len(r.input) == 0 {
		return 0
	}
	next := r.input[0]
	r.input = r.input[1:]
	return next
}

func (r *run) print(value int) {
	if len(r.outcome.Output) == api.MaxOutput {
		r.outcome.Kind = api.Exhausted
		return
	}
	r.outcome.Output = append(r.outcome.Output, value)
}
