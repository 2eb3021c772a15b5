package interpret

import (
	"slices"

	"warmpath/api"
	"warmpath/evaluate"
)

// The kinds of events.
const (
	stepsBegin = iota // how many, all or none
	depthNeeded
	functionEntered
	blockBegun // a block, of the innermost function
	edgePassed // a way
	valueCalled
	counterGrown
	numberPrinted
	functionLeft
)

// event is something that happens in a run: with a number, or at a place.
type event struct {
	kind, value int
	at          api.Point
}

// teller runs a program as the document says it, without limits, and tells what happens.
type teller struct {
	p       api.Program
	globals [][]int
	input   []int
	left    int // steps that are told of
	events  []event
}

// told is what happens in a run until it ends, or would take more than so many steps.
func told(p api.Program, input []int, most int) (events []event, last api.Outcome) {
	t := &teller{p: p, input: input, left: most}
	for _, g := range p.Globals {
		t.globals = append(t.globals, make([]int, max(1, g.Size)))
	}
	defer func() {
		if ended, ok := recover().(api.Outcome); ok {
			last = ended
		}
		events = t.events
	}()
	return nil, api.Outcome{Kind: api.Returned, Value: t.call(0, nil, 1, api.Point{}, false)}
}

func (t *teller) happens(kind, value int, at api.Point) {
	t.events = append(t.events, event{kind, value, at})
}

func (t *teller) begin(steps int) {
	t.happens(stepsBegin, steps, api.Point{})
	if t.left -= steps; t.left < 0 {
		panic(api.Outcome{Kind: api.Exhausted})
	}
}

func (t *teller) demand(right bool, trap int) {
	if !right {
		panic(api.Outcome{Kind: api.Trapped, Trap: trap})
	}
}

// call returns the value of a function that was called at a place.
func (t *teller) call(number int, args []int, depth int, at api.Point, byValue bool) int {
	f := t.p.Funcs[number]
	t.happens(depthNeeded, depth, at)
	t.begin(f.Regs)
	t.happens(functionEntered, number, at)
	if byValue {
		t.happens(valueCalled, number, at)
	}
	registers := append(slices.Clone(args), make([]int, f.Regs-len(args))...)
	for block := 0; ; {
		t.happens(blockBegun, block, api.Point{Func: number, Block: block})
		b := f.Blocks[block]
		for i, instr := range b.Instrs {
			t.begin(1)
			t.do(instr, registers, depth, api.Point{Func: number, Block: block, Instr: i})
		}
		t.begin(1)
		to, otherwise := b.Term.To, b.Term.Kind == api.TermBranch && registers[b.Term.A] == 0
		if b.Term.Kind == api.TermReturn {
			t.happens(functionLeft, 0, at)
			return registers[b.Term.A]
		}
		way := 0
		if otherwise {
			way, to = 1, b.Term.Else
		}
		t.happens(edgePassed, way, api.Point{Func: number, Block: block})
		block = to
	}
}

func (t *teller) do(i api.Instr, r []int, depth int, at api.Point) {
	var args []int
	if i.Kind == api.InstrCall || i.Kind == api.InstrCallValue {
		for _, register := range i.Args {
			args = append(args, r[register])
		}
	}
	switch i.Kind {
	case api.InstrConst, api.InstrFunc:
		r[i.Dst] = i.Value
	case api.InstrMove:
		r[i.Dst] = r[i.A]
	case api.InstrUnary:
		r[i.Dst] = evaluate.Unary(i.Op, r[i.A])
	case api.InstrBinary:
		value, defined := evaluate.Apply(i.Op, r[i.A], r[i.B])
		t.demand(defined, api.TrapDivide)
		r[i.Dst] = value
	case api.InstrLoad:
		r[i.Dst] = t.globals[i.Value][0]
	case api.InstrStore:
		t.globals[i.Value][0] = r[i.A]
	case api.InstrElement:
		r[i.Dst] = *t.element(i.Value, r[i.A])
	case api.InstrSet:
		*t.element(i.Value, r[i.A]) = r[i.B]
	case api.InstrRead:
		r[i.Dst] = 0
		if len(t.input) > 0 {
			r[i.Dst], t.input = t.input[0], t.input[1:]
		}
	case api.InstrPrint:
		t.happens(numberPrinted, r[i.A], at)
	case api.InstrCall:
		r[i.Dst] = t.call(i.Value, args, depth+1, at, false)
	case api.InstrCallValue:
		t.demand(r[i.A] >= 0 && r[i.A] < t.p.Callable && t.p.Funcs[r[i.A]].Params == len(args), api.TrapValue)
		r[i.Dst] = t.call(r[i.A], args, depth+1, at, true)
	case api.InstrCount:
		t.happens(counterGrown, i.Value, at)
	}
}

func (t *teller) element(array, index int) *int {
	t.demand(index >= 0 && index < t.p.Globals[array].Size, api.TrapIndex)
	return &t.globals[array][index]
}

// limited is a run of which is told, with limits.
func limited(p api.Program, events []event, last api.Outcome, l api.Limit) api.Run {
	r := api.Run{Outcome: last, Counters: make([]int, p.Counters)}
	times := map[event]int{}
	var stack []api.Spot
	var output []int
	for _, x := range events {
		switch {
		case x.kind == stepsBegin && r.Steps+x.value > max(0, l.Steps), x.kind == depthNeeded && x.value > min(l.Depth, api.MaxDepth), x.kind == numberPrinted && len(output) == api.MaxOutput:
			r.Outcome = api.Outcome{Kind: api.Exhausted, Output: output}
			return finished(p, r, times, stack)
		case x.kind == stepsBegin:
			r.Steps += x.value
		case x.kind == functionEntered:
			stack = append(stack, api.Spot{Func: x.value})
			x.at = api.Point{}
		case x.kind == blockBegun:
			stack[len(stack)-1].Block = x.value
		case x.kind == counterGrown:
			r.Counters[x.value]++
		case x.kind == numberPrinted:
			output = append(output, x.value)
		case x.kind == functionLeft:
			stack = stack[:len(stack)-1]
		}
		times[x]++
	}
	r.Outcome.Output = output
	return finished(p, r, times, stack)
}

// finished is a run with counts, which are how many times each event happened, and with where functions stood.
func finished(p api.Program, r api.Run, times map[event]int, stack []api.Spot) api.Run {
	for number, f := range p.Funcs {
		c := api.FuncCounts{Entries: times[event{functionEntered, number, api.Point{}}]}
		for block, b := range f.Blocks {
			at := api.Point{Func: number, Block: block}
			c.Blocks = append(c.Blocks, times[event{blockBegun, block, at}])
			c.Edges = append(c.Edges, [2]int{times[event{edgePassed, 0, at}], times[event{edgePassed, 1, at}]})
			for i := range b.Instrs {
				s := api.Site{Block: block, Instr: i}
				for target := range p.Funcs {
					if n := times[event{valueCalled, target, api.Point{Func: number, Block: block, Instr: i}}]; n > 0 {
						s.Targets = append(s.Targets, api.Target{Func: target, Count: n})
					}
				}
				if len(s.Targets) > 0 {
					c.Sites = append(c.Sites, s)
				}
			}
		}
		r.Counts.Funcs = append(r.Counts.Funcs, c)
	}
	slices.Reverse(stack)
	r.Stop = stack
	return r
}
