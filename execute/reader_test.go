package execute_test

import (
	"slices"

	"warmpath/api"
	"warmpath/evaluate"
	"warmpath/machine"
)

// The kinds of events.
const (
	entryNeeded = iota // with the depth that it makes
	entryPaid          // how many steps, all or none
	entered            // the address of the function
	begins             // the instruction at an address
	becomes            // the kind of the instruction
	goesOn             // the address at which the innermost function goes on
	grows              // a counter
	prints             // a number
	functionEnds
)

// event is something that happens in a run.
type event struct{ kind, value, size int }

// reader runs an image as the document says it, without limits, byte by byte, and tells what happens.
type reader struct {
	m       api.Image
	globals [][]int
	input   []int
	left    int // steps that are told of
	events  []event
}

// told is what happens in a run until it ends, or would take more than so many steps.
func told(m api.Image, input []int, most int) (events []event, last api.Outcome) {
	t := &reader{m: m, input: input, left: most}
	for _, g := range m.Globals {
		t.globals = append(t.globals, make([]int, max(1, g.Size)))
	}
	defer func() {
		if ended, ok := recover().(api.Outcome); ok {
			last = ended
		}
		events = t.events
	}()
	return nil, api.Outcome{Kind: api.Returned, Value: t.function(0, nil, 1, 0)}
}

func (t *reader) happens(kind, value, size int) {
	t.events = append(t.events, event{kind, value, size})
}

func (t *reader) spend(steps int) {
	if t.left -= steps; t.left < 0 {
		panic(api.Outcome{Kind: api.Exhausted})
	}
}

func (t *reader) demand(right bool, trap int) {
	if !right {
		panic(api.Outcome{Kind: api.Trapped, Trap: trap})
	}
}

// function returns what a function returns that a call of some kind enters.
func (t *reader) function(number int, args []int, depth, kind int) int {
	t.happens(entryNeeded, depth, 0)
	t.happens(entryPaid, t.m.Frames[number], 0)
	t.spend(t.m.Frames[number])
	if kind != 0 {
		t.happens(becomes, kind, 0)
	}
	at := t.m.Entries[number]
	t.happens(entered, at, 0)
	slots := append(slices.Clone(args), make([]int, t.m.Frames[number]-len(args))...)
	for {
		c, size, e := machine.Decode(t.m.Code, at)
		if e != api.OK {
			panic("no instruction")
		}
		t.happens(begins, at, size)
		t.spend(1)
		at += size
		t.happens(goesOn, at, 0)
		switch {
		case c.Op == api.CodeReturn:
			t.happens(becomes, 4, 0)
			t.happens(functionEnds, 0, 0)
			return slots[c.A]
		case c.Op == api.CodeJump:
			at += c.Value
		case c.Op != api.CodeIf && c.Op != api.CodeUnless:
			t.do(c, slots, depth)
		case (c.Op == api.CodeIf) == (slots[c.A] != 0):
			t.happens(becomes, 1, 0)
			at += c.Value
		default:
			t.happens(becomes, 2, 0)
		}
		t.happens(goesOn, at, 0)
	}
}

func (t *reader) do(c api.Code, r []int, depth int) {
	var args []int
	for _, slot := range c.Args {
		args = append(args, r[slot])
	}
	switch c.Op {
	case api.CodeConst, api.CodeFunc:
		r[c.Dst] = c.Value
	case api.CodeMove:
		r[c.Dst] = r[c.A]
	case api.CodeUnary:
		r[c.Dst] = evaluate.Unary(c.Arith, r[c.A])
	case api.CodeBinary:
		value, defined := evaluate.Apply(c.Arith, r[c.A], r[c.B])
		t.demand(defined, api.TrapDivide)
		r[c.Dst] = value
	case api.CodeLoad:
		r[c.Dst] = t.globals[c.Value][0]
	case api.CodeStore:
		t.globals[c.Value][0] = r[c.A]
	case api.CodeElement:
		r[c.Dst] = *t.element(c.Value, r[c.A])
	case api.CodeSet:
		*t.element(c.Value, r[c.A]) = r[c.B]
	case api.CodeRead:
		r[c.Dst] = 0
		if len(t.input) > 0 {
			r[c.Dst], t.input = t.input[0], t.input[1:]
		}
	case api.CodePrint:
		t.happens(prints, r[c.A], 0)
	case api.CodeCall:
		r[c.Dst] = t.function(slices.Index(t.m.Entries, c.Value), args, depth+1, 3)
	case api.CodeCallValue:
		t.demand(r[c.A] >= 0 && r[c.A] < t.m.Callable && t.m.Params[r[c.A]] == len(args), api.TrapValue)
		r[c.Dst] = t.function(r[c.A], args, depth+1, 5)
	case api.CodeCount:
		t.happens(grows, c.Value, 0)
	}
}

func (t *reader) element(array, index int) *int {
	t.demand(index >= 0 && index < t.m.Globals[array].Size, api.TrapIndex)
	return &t.globals[array][index]
}

// result is all that the functions of the package return.
type result struct {
	outcome  api.Outcome
	steps    int
	fetches  []api.Fetch
	counters []int
	stack    []int
}

// limited is a run of which is told, with limits.
func limited(m api.Image, events []event, last api.Outcome, l api.Limit) result {
	r := result{outcome: last, counters: make([]int, m.Counters)}
	var output []int
	var stack [][2]int // of functions, the outermost first: the last instruction, and where it goes on
	for _, x := range events {
		costs := 0
		switch x.kind {
		case begins:
			costs = 1
		case entryPaid:
			costs = x.value
		}
		if r.steps+costs > max(0, l.Steps) || x.kind == entryNeeded && x.value > min(l.Depth, api.MaxDepth) || x.kind == prints && len(output) == api.MaxOutput {
			r.outcome = api.Outcome{Kind: api.Exhausted}
			break
		}
		r.steps += costs
		switch x.kind {
		case entered:
			stack = append(stack, [2]int{x.value, x.value})
		case begins:
			stack[len(stack)-1][0] = x.value
			r.fetches = append(r.fetches, api.Fetch{Address: x.value, Size: x.size})
		case becomes:
			r.fetches[len(r.fetches)-1].Kind = x.value
		case goesOn:
			stack[len(stack)-1][1] = x.value
		case grows:
			r.counters[x.value]++
		case prints:
			output = append(output, x.value)
		case functionEnds:
			stack = stack[:len(stack)-1]
		}
	}
	r.outcome.Output = output
	for i, f := range stack {
		address := f[1]
		if i == len(stack)-1 {
			address = f[0]
		}
		r.stack = append(r.stack, address)
	}
	slices.Reverse(r.stack)
	r.fetches = r.fetches[:min(len(r.fetches), api.MaxTrace)]
	return r
}
