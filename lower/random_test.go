package lower

import (
	"fmt"
	"reflect"
	"slices"
	"strings"
	"testing"

	"warmpath/api"
	"warmpath/evaluate"
	"warmpath/flow"
)

// kinds counts the kinds of instructions and ends of a program.
func kinds(p api.Program, seen map[string]int) {
	for _, f := range p.Funcs {
		for _, b := range f.Blocks {
			for _, i := range b.Instrs {
				seen[fmt.Sprint("instruction ", i.Kind)]++
			}
			seen[fmt.Sprint("end ", b.Term.Kind)]++
		}
	}
}

func TestRandomPrograms(t *testing.T) {
	m := newMaker(1)
	seen := map[string]int{}
	for range 1500 {
		text := m.source()
		p := resolved(t, text)
		before := fmt.Sprint(p)
		q, e := Lower(p)
		if after := fmt.Sprint(p); after != before {
			t.Fatalf("%s, not %s", after, before)
		}
		if again, same := Lower(p); !flow.Same(q, again) || e != same {
			t.Fatalf("%s: %v and %v", text, q, again)
		}
		seen[fmt.Sprint("error ", e)]++
		if e == api.ErrLimit {
			continue
		}
		if e != api.OK || flow.Check(q) != api.OK {
			t.Fatalf("%s: %d, and %d for %v", text, e, flow.Check(q), q)
		}
		isAsDocumented(t, text, p, q)
		kinds(q, seen)
	}
	for _, kind := range []int{1, 2, 3, 4, 5, 6, 7, 8, 9, 10, 11, 12, 14} {
		if seen[fmt.Sprint("instruction ", kind)] < 500 {
			t.Errorf("instructions %d: only %d", kind, seen[fmt.Sprint("instruction ", kind)])
		}
	}
	for _, what := range []string{"error 0", "end 1", "end 2", "end 3"} {
		if seen[what] < 500 {
			t.Errorf("%s: only %d", what, seen[what])
		}
	}
}

// TestRandomRuns compares runs of sources with those of what they become.
func TestRandomRuns(t *testing.T) {
	m := newMaker(2)
	seen := map[string]int{}
	for range 2000 {
		text := m.source()
		p := resolved(t, text)
		q, e := Lower(p)
		if e != api.OK {
			continue
		}
		input := []int{m.Intn(3), m.Intn(3), m.Intn(10) - 5, m.Intn(2), m.Intn(3), m.Intn(4)}[:m.Intn(7)]
		for _, depth := range []int{0, 1, 2, 3, 20} {
			want, steps := evaluate.Run(p, input, api.Limit{Steps: 500, Depth: depth})
			got := executed(q, input, api.Limit{Steps: api.Factor*steps + api.Factor, Depth: depth})
			if !evaluate.Refines(want, got) {
				t.Fatalf("%s%v, depth %d: %v, not %v", text, input, depth, got, want)
			}
			seen[fmt.Sprint("kind ", want.Kind, ", trap ", want.Trap)]++
			if steps > 60 {
				seen["long"]++
			}
		}
	}
	for _, what := range []string{"kind 1, trap 0", "kind 2, trap 1", "kind 2, trap 2", "kind 2, trap 3", "kind 3, trap 0", "long"} {
		if seen[what] < 100 {
			t.Errorf("%s: only %d", what, seen[what])
		}
	}
}

// TestKnownRuns compares runs in which the order matters in which things are evaluated.
func TestKnownRuns(t *testing.T) {
	const text = "global g; global a[2]; func f(x) { g = g + x; return g; } func fail() { return a[2]; } func main2() { } "
	for body, want := range map[string]string{
		"":                                                   "{1 0 0 []}",
		"print g + f(3); print f(1) * g;":                    "{1 0 0 [3 16]}",
		"var x = 5; print x + f(x) + x;":                     "{1 0 0 [15]}",
		"a[f(1)] = f(2); print a[1]; return g;":              "{1 3 0 [3]}",
		"a[2] = f(1) / 0;":                                   "{2 0 1 []}",
		"a[2] = 1 / f(1);":                                   "{2 0 2 []}",
		"print 0 && fail(); print 1 || fail();":              "{1 0 0 [0 1]}",
		"print 7 && 8; print 0 || 9;":                        "{1 0 0 [1 1]}",
		"print 7 && 0; print 0 || 0; print !9;":              "{1 0 0 [0 0 0]}",
		"print 1 && (0 || 2 && 3);":                          "{1 0 0 [1]}",
		"print 1 && fail();":                                 "{2 0 2 []}",
		"return (&f)(4);":                                    "{1 4 0 []}",
		"return 5(fail());":                                  "{2 0 2 []}",
		"print 1; return 5();":                               "{2 0 3 [1]}",
		"print 1; return (&f)();":                            "{2 0 3 [1]}",
		"print &f; print &main; print &main2;":               "{1 0 0 [1 0 3]}",
		"while read { print read; } print read;":             "{1 0 0 [2 4 6]}",
		"while read { if read == 4 { return 9; } print 0; }": "{1 9 0 [0]}",
	} {
		p := resolved(t, "global z; func main() { "+body+" } "+text)
		q := lowered(t, "global z; func main() { "+body+" } "+text)
		input := []int{1, 2, 3, 4, 0, 6}
		evaluated, steps := evaluate.Run(p, input, api.Limit{Steps: 1000, Depth: 2})
		got := executed(q, input, api.Limit{Steps: api.Factor*steps + api.Factor, Depth: 2})
		if fmt.Sprint(evaluated) != want || fmt.Sprint(got) != want {
			t.Errorf("%s: %v and %v, not %s", body, evaluated, got, want)
		}
	}
}

// TestFactor has functions that are as expensive as they can be, for as few steps of the source as can be.
func TestFactor(t *testing.T) {
	calls := strings.Repeat("call f();", 300)
	deep := strings.Repeat("(1)(1, 2, 3, 4, 5, ", 41) + "1 + (1 + (1 + 1))" + strings.Repeat(")", 41)
	for _, body := range []string{"", "return 0; call " + deep + ";", "if 0 { print " + deep + "; }"} {
		text := "func main() { " + calls + " } func f() { " + body + " }"
		for _, depth := range []int{0, 1, 2, 3} {
			want, steps := evaluate.Run(resolved(t, text), nil, api.Limit{Steps: 100000, Depth: depth})
			got := executed(lowered(t, text), nil, api.Limit{Steps: api.Factor*steps + api.Factor, Depth: depth})
			if !evaluate.Same(got, want) {
				t.Errorf("%s, depth %d: %v, not %v", body, depth, got, want)
			}
		}
	}
}

// TestOutput prints more than can be printed.
func TestOutput(t *testing.T) {
	for limit, kind := range map[int]int{api.MaxOutput: api.Returned, api.MaxOutput + 1: api.Exhausted} {
		text := fmt.Sprintf("func main() { var i = 0; while i < %d { print i; i = i + 1; } }", limit)
		want, steps := evaluate.Run(resolved(t, text), nil, api.Limit{Steps: 1 << 20, Depth: 1})
		got := executed(lowered(t, text), nil, api.Limit{Steps: api.Factor*steps + api.Factor, Depth: 1})
		if !evaluate.Same(got, want) || got.Kind != kind {
			t.Errorf("%d numbers: %v, not %v", limit, got, want)
		}
	}
}

// TestOtherLines gives other lines to a program: the lines of blocks alone are different.
func TestOtherLines(t *testing.T) {
	m := newMaker(3)
	for range 300 {
		text := strings.Join(strings.Fields(m.source()), " ")
		p, e := Lower(resolved(t, text))
		q, same := Lower(resolved(t, m.spread(text)))
		for _, f := range q.Funcs {
			for i := range f.Blocks {
				f.Blocks[i].Line = 1
			}
		}
		if !flow.Same(p, q) || e != same {
			t.Fatalf("%s: %v and %v", text, p, q)
		}
	}
}

// span is the memory of a slice, with its room.
type span struct{ from, to uintptr }

// spans collects the memory of all slices of a value.
func spans(v reflect.Value, l []span) []span {
	switch v.Kind() {
	case reflect.Struct:
		for i := range v.NumField() {
			l = spans(v.Field(i), l)
		}
	case reflect.Slice:
		if v.Cap() > 0 {
			l = append(l, span{v.Pointer(), v.Pointer() + uintptr(v.Cap())*v.Type().Elem().Size()})
		}
		for i := range v.Len() {
			l = spans(v.Index(i), l)
		}
	}
	return l
}

func TestNoSharedMemory(t *testing.T) {
	m := newMaker(4)
	for range 300 {
		p := resolved(t, m.source())
		q, _ := Lower(p)
		l := slices.Concat(spans(reflect.ValueOf(q), nil), spans(reflect.ValueOf(p), nil))
		slices.SortFunc(l, func(a, b span) int { return int(a.from) - int(b.from) })
		for i := range l[1:] {
			if l[i].to > l[i+1].from {
				t.Fatalf("slices of %v share memory", q)
			}
		}
	}
}

// TestRoomOfSlices lays what belongs to somebody else behind the slices of a tree.
func TestRoomOfSlices(t *testing.T) {
	mine := api.Expr{Kind: api.ExprNumber, Name: "mine"}
	args := []api.Expr{{Kind: api.ExprLocal, Name: "x"}, {Kind: api.ExprRead}, mine, mine}
	exprs := []api.Expr{{Kind: api.ExprValue, Args: args[:2]}, mine, mine}
	body := []api.Stmt{{Kind: api.StmtVar, Name: "x", Exprs: exprs[:1]}, {Kind: api.StmtPrint, Name: "mine"}, {Kind: api.StmtVar, Name: "mine"}}
	params := []string{"y", "mine"}
	funcs := []api.Func{{Name: "main", Body: body[:1]}, {Name: "g", Params: params[:1]}, {Name: "mine"}}
	globals := []api.Global{{Name: "s"}, {Name: "mine"}}
	before := fmt.Sprint(args, exprs, body, params, funcs, globals)
	q, e := Lower(api.Source{Globals: globals[:1], Funcs: funcs[:2]})
	if e != api.OK || len(q.Globals) != 1 || len(q.Funcs) != 2 || writtenFunc(q.Funcs[0]) != "r1 = r0; r2 = read; r1 = r1(r2); r0 = r1; r1 = 0; return r1" {
		t.Fatalf("%v, %d", q, e)
	}
	q.Globals[0].Name = "forged"
	_ = append(q.Globals, api.Global{Name: "forged"})
	if after := fmt.Sprint(args, exprs, body, params, funcs, globals); after != before {
		t.Errorf("%s, not %s", after, before)
	}
}

// TestNoLists compares a program without lists with one whose lists are empty.
func TestNoLists(t *testing.T) {
	a := api.Source{Funcs: []api.Func{{Name: "main", Body: []api.Stmt{{Kind: api.StmtIf, Exprs: []api.Expr{{Kind: api.ExprRead}}}}}}}
	b := api.Source{Globals: []api.Global{}, Funcs: []api.Func{{Name: "main", Params: []string{}, Body: []api.Stmt{{Kind: api.StmtIf, Exprs: []api.Expr{{Kind: api.ExprRead, Args: []api.Expr{}}}, Then: []api.Stmt{}, Else: []api.Stmt{}}}}}}
	p, e := Lower(a)
	q, same := Lower(b)
	if e != api.OK || same != api.OK || !flow.Same(p, q) || len(q.Funcs[0].Blocks) != 3 {
		t.Errorf("%v, %d, and %v, %d", p, e, q, same)
	}
}
