package flow

import (
	"fmt"
	"reflect"
	"slices"
	"testing"

	"warmpath/api"
)

// errors are all errors of a program, in the order in which they are considered; what comes behind a first one may say nothing.
type errors []api.Errno

func (l *errors) unless(right bool, e api.Errno) {
	if !right {
		*l = append(*l, e)
	}
}

// among reports whether a number is from 0 on, and less than another one.
func among(n, end int) bool { return uint(n) < uint(max(end, 0)) }

func (l *errors) program(p api.Program) {
	l.unless(len(p.Funcs) > 0 && len(p.Funcs) <= 64 && len(p.Globals) <= 32 && among(p.Counters, 4097), api.ErrLimit)
	for _, g := range p.Globals {
		l.unless(among(g.Size, 1025), api.ErrGlobal)
	}
	l.unless(among(p.Callable, len(p.Funcs)+1), api.ErrFunction)
	for i, f := range p.Funcs {
		if i == 0 {
			l.unless(f.Params == 0, api.ErrMain)
		}
	}
	for _, f := range p.Funcs {
		l.function(p, f)
	}
}

func (l *errors) function(p api.Program, f api.Function) {
	size := 0
	for _, b := range f.Blocks {
		size += len(b.Instrs) + 1
	}
	l.unless(size > 0 && len(f.Blocks) <= 256 && size <= 2048, api.ErrLimit)
	l.unless(among(f.Regs, 251), api.ErrRegister)
	l.unless(among(f.Params, f.Regs+1), api.ErrRegister)
	for _, b := range f.Blocks {
		for _, i := range b.Instrs {
			l.instr(p, f, i)
		}
		l.end(f, b.Term)
	}
	if len(*l) == 0 {
		l.unless(!slices.Contains(ways(f)[0], false), api.ErrBlock)
	}
}

func (l *errors) instr(p api.Program, f api.Function, i api.Instr) {
	s, known := shapes[i.Kind]
	l.unless(known && (s.to == 0 || s.from <= i.Op && i.Op <= s.to), api.ErrOp)
	for _, r := range used(i) {
		l.unless(among(r, f.Regs), api.ErrRegister)
	}
	if s.writes {
		l.unless(among(i.Dst, f.Regs), api.ErrRegister)
	}
	switch s.value {
	case "scalar":
		l.unless(among(i.Value, len(p.Globals)) && p.Globals[i.Value].Size <= 0, api.ErrGlobal)
	case "array":
		l.unless(among(i.Value, len(p.Globals)) && p.Globals[i.Value].Size > 0, api.ErrGlobal)
	case "function":
		l.unless(among(i.Value, len(p.Funcs)), api.ErrFunction)
		l.unless(among(i.Value, len(p.Funcs)) && p.Funcs[i.Value].Params == len(i.Args), api.ErrArity)
	case "callable":
		l.unless(among(i.Value, p.Callable), api.ErrFunction)
	case "counter":
		l.unless(among(i.Value, p.Counters), api.ErrRange)
	}
	l.unless(s.reads != "al" || len(i.Args) <= 250, api.ErrArity)
}

func (l *errors) end(f api.Function, t api.Term) {
	l.unless(t.Kind == 1 || t.Kind == 2 || t.Kind == 3, api.ErrOp)
	if t.Kind == 2 || t.Kind == 3 {
		l.unless(among(t.A, f.Regs), api.ErrRegister)
	}
	if t.Kind == 1 || t.Kind == 2 {
		l.unless(among(t.To, len(f.Blocks)), api.ErrBlock)
	}
	if t.Kind == 2 {
		l.unless(among(t.Else, len(f.Blocks)), api.ErrBlock)
	}
}

// firstError is what the document says of a program.
func firstError(p api.Program) api.Errno {
	var l errors
	l.program(p)
	return append(l, api.OK)[0]
}

func TestRandomRightPrograms(t *testing.T) {
	m := newMaker(8)
	for range 3000 {
		p := m.program()
		before := fmt.Sprint(p)
		if e, want := Check(p), firstError(p); e != api.OK || want != api.OK {
			t.Fatalf("%s: error %d, %d", before, e, want)
		}
		if after := fmt.Sprint(p); after != before {
			t.Fatalf("%s, not %s", after, before)
		}
	}
}

// TestRandomErrors changes any numbers, and leaves out any parts of lists.
func TestRandomErrors(t *testing.T) {
	m := newMaker(9)
	seen := map[api.Errno]int{}
	for range 20000 {
		p := copied(m.program())
		chance := []int{3, 30, 100}[m.Intn(3)]
		eachPart(reflect.ValueOf(&p).Elem(), func(v reflect.Value) {
			switch {
			case m.Intn(chance) > 0:
			case v.Kind() == reflect.Int:
				v.SetInt([]int64{int64(m.any()), v.Int() + 1, v.Int() - 1}[m.Intn(3)])
			case v.Kind() == reflect.Slice && v.Len() > 0 && m.Intn(9) == 0:
				v.Set(v.Slice(0, m.Intn(v.Len())))
			}
		})
		e, want := Check(p), firstError(p)
		if e != want {
			t.Fatalf("%v: error %d, not %d", p, e, want)
		}
		seen[e]++
	}
	for _, e := range []api.Errno{api.OK, api.ErrLimit, api.ErrGlobal, api.ErrFunction, api.ErrMain, api.ErrRegister, api.ErrOp, api.ErrArity, api.ErrRange, api.ErrBlock} {
		if seen[e] < 50 {
			t.Errorf("error %d: only %d times", e, seen[e])
		}
	}
}

// TestRandomInstructions has instructions and ends with anything in all fields.
func TestRandomInstructions(t *testing.T) {
	m := newMaker(10)
	seen := map[api.Errno]int{}
	few := func() int { return []int{m.Intn(3), m.Intn(3), m.Intn(3), m.any()}[m.Intn(4)] }
	for range 50000 {
		p := known()
		f := &p.Funcs[m.Intn(3)]
		i := api.Instr{Kind: m.Intn(16), Op: few() * few(), Dst: few(), A: few(), B: few(), Value: few()}
		for range m.Intn(4) {
			i.Args = append(i.Args, few())
		}
		f.Blocks[0].Instrs = []api.Instr{i}
		if m.Intn(4) == 0 {
			f.Blocks[0].Term = api.Term{Kind: m.Intn(5), A: few(), To: few(), Else: few()}
		}
		e, want := Check(p), firstError(p)
		if e != want {
			t.Fatalf("%v: error %d, not %d", p, e, want)
		}
		seen[e]++
	}
	for _, e := range []api.Errno{api.OK, api.ErrOp, api.ErrRegister, api.ErrGlobal, api.ErrFunction, api.ErrArity, api.ErrRange, api.ErrBlock} {
		if seen[e] < 500 {
			t.Errorf("error %d: only %d times", e, seen[e])
		}
	}
}

// TestRoomOfSlices lays what belongs to somebody else behind the slices of a program.
func TestRoomOfSlices(t *testing.T) {
	args := []int{0, 0, 9, 9}
	call := api.Instr{Kind: api.InstrCall, Value: 1, Args: args[:2]}
	instrs := []api.Instr{call, set(0), {Kind: 99}, {Kind: 99}}
	blocks := []api.Block{{Instrs: instrs[:2], Term: jump(1)}, {Term: give(0)}, {Line: 9}, {Line: 9}}
	funcs := []api.Function{{Regs: 1, Blocks: blocks[:2]}, {Params: 2, Regs: 2, Blocks: blocks[1:2]}, {Name: "mine"}, {Name: "mine"}}
	globals := []api.Global{{Size: 1}, {Size: -1}}
	p := api.Program{Globals: globals[:1], Funcs: funcs[:2]}
	before := fmt.Sprint(args, instrs, blocks, funcs, globals)
	isError(t, p, api.OK)
	f := p.Funcs[0]
	if !Same(p, p) || Size(f) != 4 || fmt.Sprint(Reach(f), Preds(f), Live(f)) != "[true true] [[] [0]] [[0] [0]]" {
		t.Errorf("%v: %d, %v, %v, %v", p, Size(f), Reach(f), Preds(f), Live(f))
	}
	if after := fmt.Sprint(args, instrs, blocks, funcs, globals); after != before {
		t.Errorf("%s, not %s", after, before)
	}
}
