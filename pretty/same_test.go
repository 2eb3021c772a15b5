package pretty

import (
	"reflect"
	"testing"

	"warmpath/api"
	"warmpath/syntax"
)

// many has all kinds of expressions and statements.
const many = `global a[3];
global b;
func main() {
	var x = 1;
	x = -x + 2;
	a[x] = a[1] && read || !b;
	if x { print &f; print 1; } else { print f(1, x)(2); }
	while x < 3 { call f(1, 2); if x { return 1; } }
	return (x)(x, 3);
}
func f(p, q) { }
`

// parts calls visit with all parts of a tree that are no structs, and the names of the fields in which they lie, the outer ones first.
func parts(v reflect.Value, field string, visit func(v reflect.Value, field string)) {
	switch v.Kind() {
	case reflect.Struct:
		for i := range v.NumField() {
			parts(v.Field(i), v.Type().Field(i).Name, visit)
		}
	case reflect.Slice:
		visit(v, field)
		for i := range v.Len() {
			parts(v.Index(i), field, visit)
		}
	default:
		visit(v, field)
	}
}

// eachChange calls compare with a new tree for each part of it: first the part is changed, with the name of its field.
func eachChange[T any](parse func() T, change func(reflect.Value) bool, compare func(changed T, field string)) (changes int) {
	for at := 0; ; at++ {
		x, here, name, done := parse(), 0, "", false
		parts(reflect.ValueOf(&x).Elem(), "", func(v reflect.Value, field string) {
			if here == at {
				name, done = field, change(v)
			}
			here++
		})
		if at >= here {
			return changes
		}
		if done {
			changes++
			compare(x, name)
		}
	}
}

func program() api.Source {
	p, _, _ := syntax.Parse(many)
	return p
}

func expression() api.Expr {
	x, _, _ := syntax.ParseExpr("f(1, a[x], &f, -(g)(x) + read)(x && !y || f())")
	return x
}

// eachChangeOfBoth checks, for each change that can be made to a program or to an expression, whether it leaves the tree the same.
func eachChangeOfBoth(t *testing.T, change func(reflect.Value) bool, same func(field string) bool) {
	t.Helper()
	p, x := program(), expression()
	n := eachChange(program, change, func(changed api.Source, field string) {
		if Same(p, changed) != same(field) || Same(changed, p) != same(field) {
			t.Errorf("another %s: %v", field, changed)
		}
	})
	m := eachChange(expression, change, func(changed api.Expr, field string) {
		if SameExpr(x, changed) != same(field) || SameExpr(changed, x) != same(field) {
			t.Errorf("another %s: %v", field, changed)
		}
	})
	if n < 20 || m < 5 {
		t.Errorf("only %d and %d changes", n, m)
	}
}

func TestSameIsEqualButForLines(t *testing.T) {
	eachChangeOfBoth(t, func(v reflect.Value) bool {
		if v.Kind() == reflect.Int {
			v.SetInt(v.Int() + 1)
		}
		return v.Kind() == reflect.Int
	}, func(field string) bool { return field == "Line" })
}

func TestNamesAreNotTheSame(t *testing.T) {
	for _, ending := range []string{"", "x", "\x00"} {
		eachChangeOfBoth(t, func(v reflect.Value) bool {
			if v.Kind() == reflect.String {
				v.SetString(v.String() + ending)
			}
			return v.Kind() == reflect.String
		}, func(string) bool { return ending == "" })
	}
}

func TestListsAreNotTheSame(t *testing.T) {
	never := func(string) bool { return false }
	eachChangeOfBoth(t, func(v reflect.Value) bool {
		if v.Kind() == reflect.Slice {
			v.Set(reflect.Append(v, reflect.Zero(v.Type().Elem())))
		}
		return v.Kind() == reflect.Slice
	}, never)
	eachChangeOfBoth(t, func(v reflect.Value) bool {
		full := v.Kind() == reflect.Slice && v.Len() > 0
		if full {
			v.Set(v.Slice(0, v.Len()-1))
		}
		return full
	}, never)
	eachChangeOfBoth(t, func(v reflect.Value) bool {
		full := v.Kind() == reflect.Slice && v.Len() > 0
		if full {
			v.Set(v.Slice(1, v.Len()))
		}
		return full
	}, never)
}

func TestNoListIsAnEmptyList(t *testing.T) {
	eachChangeOfBoth(t, func(v reflect.Value) bool {
		empty := v.Kind() == reflect.Slice && v.Len() == 0
		if empty && v.IsNil() {
			v.Set(reflect.MakeSlice(v.Type(), 0, 1))
		} else if empty {
			v.SetZero()
		}
		return empty
	}, func(string) bool { return true })
	if !Same(api.Source{}, api.Source{Globals: []api.Global{}, Funcs: []api.Func{}}) {
		t.Error("no program is not the same as an empty one")
	}
}

func TestSameExprs(t *testing.T) {
	x, y := name("x"), name("y")
	for _, pair := range [][2]api.Expr{
		{name("x"), local("x")}, {name("x"), global("x")}, {local("x"), global("x")}, {name("x"), function("x")}, {name("x"), name("X")},
		{number(1), number(2)}, {call("f"), callOf(name("f"))}, {call("f", x, y), call("f", y, x)}, {call("f", x), element("f", x)},
		{unary(api.OpNot, x), unary(api.OpNegate, x)}, {binary(api.OpAdd, x, y), binary(api.OpAdd, y, x)}, {binary(api.OpAdd, x, y), binary(api.OpSubtract, x, y)},
		{node(api.ExprAnd, 0, x, y), node(api.ExprOr, 0, x, y)}, {binary(api.OpAdd, binary(api.OpAdd, x, y), x), binary(api.OpAdd, x, binary(api.OpAdd, y, x))},
	} {
		if SameExpr(pair[0], pair[1]) || SameExpr(pair[1], pair[0]) || !SameExpr(pair[0], pair[0]) || !SameExpr(pair[1], pair[1]) {
			t.Errorf("%v and %v", pair[0], pair[1])
		}
	}
}

func TestSamePrograms(t *testing.T) {
	a, b := api.Global{Name: "a"}, api.Global{Name: "b", Size: 2}
	f, g := api.Func{Name: "f"}, api.Func{Name: "g"}
	all := []api.Source{
		{}, {Globals: []api.Global{a}}, {Globals: []api.Global{b}}, {Globals: []api.Global{a, b}}, {Globals: []api.Global{b, a}}, {Globals: []api.Global{{Name: "a", Size: 1}}},
		{Funcs: []api.Func{f}}, {Funcs: []api.Func{f, g}}, {Funcs: []api.Func{g, f}}, {Globals: []api.Global{a}, Funcs: []api.Func{f}},
		{Funcs: []api.Func{{Name: "f", Params: []string{"a", "b"}}}}, {Funcs: []api.Func{{Name: "f", Params: []string{"b", "a"}}}}, {Funcs: []api.Func{{Name: "f", Params: []string{"ab"}}}},
		{Funcs: []api.Func{{Name: "f", Body: []api.Stmt{{Kind: api.StmtIf, Then: []api.Stmt{{Kind: api.StmtPrint}}}}}}},
		{Funcs: []api.Func{{Name: "f", Body: []api.Stmt{{Kind: api.StmtIf, Else: []api.Stmt{{Kind: api.StmtPrint}}}}}}},
	}
	for i, p := range all {
		for j, q := range all {
			if Same(p, q) != (i == j) {
				t.Errorf("%v and %v: %t", p, q, i != j)
			}
		}
	}
}
