package flow

import (
	"fmt"
	"reflect"
	"slices"
	"testing"

	"warmpath/api"
)

// eachPart calls visit with all parts of a value that are no structs, the outer ones first.
func eachPart(v reflect.Value, visit func(reflect.Value)) {
	switch v.Kind() {
	case reflect.Struct:
		for i := range v.NumField() {
			eachPart(v.Field(i), visit)
		}
	case reflect.Slice:
		visit(v)
		for i := range v.Len() {
			eachPart(v.Index(i), visit)
		}
	default:
		visit(v)
	}
}

// changes are the changes of a part of a program, each of which makes another program.
var changes = []func(v reflect.Value) bool{
	func(v reflect.Value) bool {
		if v.Kind() == reflect.Int {
			v.SetInt(v.Int() + 1)
		}
		return v.Kind() == reflect.Int
	},
	func(v reflect.Value) bool {
		if v.Kind() == reflect.Int {
			v.SetInt(v.Int() ^ least)
		}
		return v.Kind() == reflect.Int
	},
	func(v reflect.Value) bool {
		if v.Kind() == reflect.String {
			v.SetString(v.String() + "\x00")
		}
		return v.Kind() == reflect.String
	},
	func(v reflect.Value) bool {
		if v.Kind() == reflect.Slice {
			v.Set(reflect.Append(v, reflect.Zero(v.Type().Elem())))
		}
		return v.Kind() == reflect.Slice
	},
	func(v reflect.Value) bool {
		full := v.Kind() == reflect.Slice && v.Len() > 0
		if full {
			v.Set(v.Slice(0, v.Len()-1))
		}
		return full
	},
}

// eachChange calls compare with a copy of a program for each part that can be changed in a way.
func eachChange(p api.Program, change func(reflect.Value) bool, compare func(api.Program)) (made int) {
	for at := 0; ; at++ {
		q, here, done := copied(p), 0, false
		eachPart(reflect.ValueOf(&q).Elem(), func(v reflect.Value) {
			if here == at {
				done = change(v)
			}
			here++
		})
		if at >= here {
			return made
		}
		if done {
			made++
			compare(q)
		}
	}
}

func TestSameComparesAllFields(t *testing.T) {
	p := known()
	for i, change := range changes {
		if made := eachChange(p, change, func(q api.Program) {
			if Same(p, q) || Same(q, p) {
				t.Errorf("%v and %v", p, q)
			}
			if same := fmt.Sprint(p.Funcs) == fmt.Sprint(q.Funcs); slices.EqualFunc(p.Funcs, q.Funcs, SameFunc) != same || slices.EqualFunc(q.Funcs, p.Funcs, SameFunc) != same {
				t.Errorf("%v and %v", p.Funcs, q.Funcs)
			}
		}); made < 5 {
			t.Errorf("change %d: only %d times", i, made)
		}
	}
}

func TestSameOfCopies(t *testing.T) {
	m := newMaker(7)
	for range 500 {
		p, q := m.program(), m.program()
		before := fmt.Sprint(p, q)
		if !Same(p, p) || !Same(p, copied(p)) || !Same(copied(p), p) || !SameFunc(p.Funcs[0], copiedFunc(p.Funcs[0])) {
			t.Fatalf("%v is not the same as itself", p)
		}
		if Same(p, q) != reflect.DeepEqual(copied(p), copied(q)) {
			t.Fatalf("%v and %v", p, q)
		}
		if after := fmt.Sprint(p, q); after != before {
			t.Fatalf("%s, not %s", after, before)
		}
	}
}

func TestNoListIsAnEmptyList(t *testing.T) {
	if !Same(api.Program{}, api.Program{Globals: []api.Global{}, Funcs: []api.Function{}}) || !SameFunc(api.Function{Blocks: []api.Block{}}, api.Function{}) {
		t.Error("no lists")
	}
	a, b := api.Function{Blocks: []api.Block{{}}}, api.Function{Blocks: []api.Block{{Instrs: []api.Instr{}}}}
	if !SameFunc(a, b) || !SameFunc(b, a) {
		t.Error("no instructions")
	}
	a, b = api.Function{Blocks: []api.Block{{Instrs: []api.Instr{{}}}}}, api.Function{Blocks: []api.Block{{Instrs: []api.Instr{{Args: []int{}}}}}}
	if !SameFunc(a, b) || !SameFunc(b, a) {
		t.Error("no arguments")
	}
}

func TestKnownDifferences(t *testing.T) {
	f := func(l ...api.Block) api.Function { return api.Function{Blocks: l} }
	all := []api.Function{
		{}, {Name: "f"}, {Name: "F"}, {Params: 1}, {Regs: 1}, f(block(jump(0))), f(block(give(0))), f(block(jump(0)), block(give(0))), f(block(give(0)), block(jump(0))),
		f(block(jump(0), set(0))), f(block(jump(0), set(1))), f(block(jump(0), set(0), set(1))), f(block(jump(0), set(1), set(0))), f(block(jump(0)), block(jump(0), set(0))),
		f(api.Block{Term: jump(0), Line: 1}), f(api.Block{Term: jump(0), Origin: api.Spot{Func: 1}}), f(api.Block{Term: jump(0), Origin: api.Spot{Block: 1}}),
		f(block(jump(0), api.Instr{Kind: api.InstrCall, Args: []int{1, 2}})), f(block(jump(0), api.Instr{Kind: api.InstrCall, Args: []int{2, 1}})), f(block(jump(0), api.Instr{Kind: api.InstrCall, Args: []int{1}})),
		f(block(api.Term{Kind: api.TermJump, Else: 1})), f(block(api.Term{Kind: api.TermJump, A: 1})), f(block(jump(0), api.Instr{Kind: api.InstrConst, A: 1})),
	}
	for i, a := range all {
		for j, b := range all {
			if SameFunc(a, b) != (i == j) || Same(api.Program{Funcs: []api.Function{a}}, api.Program{Funcs: []api.Function{b}}) != (i == j) {
				t.Errorf("%v and %v: %t", a, b, i != j)
			}
		}
	}
}
