package execute

import (
	"warmpath/api"
	"warmpath/link"
	"warmpath/machine"
)

// instruction is a machine instruction, how many bytes it has, and the function that an api.CodeCall enters.
type instruction struct {
	api.Code
	size, callee int
}

// frame is a function that was entered and has not returned. Its last instruction is at an address; ahead of the first one this is its entry. It goes on at the address next.
type frame struct {
	at, next int
	slots    []int
}

// run is a run of an image. It goes on as long as its outcome has no Kind.
type run struct {
	image    api.Image
	limit    api.Limit
	input    []int // what is left of it
	outcome  api.Outcome
	steps    int
	counters []int
	globals  [][]int
	frames   []frame              // the innermost one is the last one
	decoded  map[int]*instruction // those that were executed, by their addresses
}

// begun is a run that has entered the first function, or could not.
func begun(m api.Image, input []int, l api.Limit) *run {
	r := &run{image: m, limit: within(l), input: input, counters: make([]int, m.Counters), decoded: map[int]*instruction{}}
	for _, g := range m.Globals {
		r.globals = append(r.globals, make([]int, max(g.Size, 1)))
	}
	r.enter(0, nil)
	return r
}

// ended is a run that has ended.
func ended(m api.Image, input []int, l api.Limit) *run {
	r := begun(m, input, l)
	for r.outcome.Kind == 0 {
		r.next()
	}
	return r
}

// within is a limit that is neither below 0 nor above the greatest one.
func within(l api.Limit) api.Limit {
	return api.Limit{Steps: min(max(l.Steps, 0), api.MaxSteps), Depth: min(max(l.Depth, 0), api.MaxDepth)}
}

// next executes the instruction that comes next, if the run has not ended and does not end ahead of it.
func (r *run) next() (api.Fetch, bool) {
	if r.outcome.Kind != 0 || !r.pay(1) {
		return api.Fetch{}, false
	}
	f := r.innermost()
	at := f.next
	i := r.instruction(at)
	f.at, f.next = at, at+i.size
	return api.Fetch{Address: at, Size: i.size, Kind: r.execute(f, i)}, true
}

// instruction is the instruction at an address. It is decoded when it comes for the first time, as a run may need few of many.
func (r *run) instruction(at int) *instruction {
	i, known := r.decoded[at]
	if !known {
		i = &instruction{}
		i.Code, i.size, _ = machine.Decode(r.image.Code, at)
		if i.Op == api.CodeCall {
			i.callee, _ = link.Owner(r.image, i.Value)
		}
		r.decoded[at] = i
	}
	return i
}

// pay counts steps, all or none: if they are too many, the run ends.
func (r *run) pay(steps int) bool {
	if steps > r.limit.Steps-r.steps {
		r.outcome.Kind = api.Exhausted
		return false
	}
	r.steps += steps
	return true
}

func (r *run) trap(trap int) { r.outcome.Kind, r.outcome.Trap = api.Trapped, trap }

func (r *run) innermost() *frame { return &r.frames[len(r.frames)-1] }

// enter enters a function with arguments in those slots of the innermost one, unless the run ends ahead of it.
func (r *run) enter(number int, args []int) bool {
	if len(r.frames) >= r.limit.Depth {
		r.outcome.Kind = api.Exhausted
		return false
	}
	size := r.image.Frames[number]
	if !r.pay(size) {
		return false
	}
	slots := make([]int, size)
	for i, arg := range args {
		slots[i] = r.innermost().slots[arg]
	}
	entry := r.image.Entries[number]
	r.frames = append(r.frames, frame{entry, entry, slots})
	return true
}

// leave leaves the innermost function with a value, which goes to the call at which the one around it stands.
func (r *run) leave(value int) {
	r.frames = r.frames[:len(r.frames)-1]
	if len(r.frames) == 0 {
		r.outcome.Kind, r.outcome.Value = api.Returned, value
		return
	}
	f := r.innermost()
	f.slots[r.decoded[f.at].Dst] = value
}
