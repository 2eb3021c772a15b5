package machine

import (
	"reflect"
	"testing"

	"warmpath/api"
)

func TestSameComparesAllFields(t *testing.T) {
	for op := -1; op < 20; op++ {
		whole := func() api.Code {
			return api.Code{Op: op, Arith: 2, Dst: 3, A: 4, B: 5, Value: 6, Wide: true, Args: []int{7, 8}}
		}
		if !Same(whole(), whole()) {
			t.Errorf("%v is not the same as itself", whole())
		}
		fields := reflect.TypeFor[api.Code]().NumField()
		for i := range fields {
			c := whole()
			v := reflect.ValueOf(&c).Elem().Field(i)
			for _, change := range changes[v.Kind()] {
				change(v)
				if Same(c, whole()) || Same(whole(), c) {
					t.Errorf("%v and %v", c, whole())
				}
				c = whole()
			}
		}
	}
}

// changes are what makes another instruction of one, by the kind of the field that is changed.
var changes = map[reflect.Kind][]func(v reflect.Value){
	reflect.Bool: {func(v reflect.Value) { v.SetBool(!v.Bool()) }},
	reflect.Int: {
		func(v reflect.Value) { v.SetInt(v.Int() + 1) },
		func(v reflect.Value) { v.SetInt(v.Int() ^ smallest) },
		func(v reflect.Value) { v.SetInt(v.Int() ^ 256) },
	},
	reflect.Slice: {
		func(v reflect.Value) { v.SetZero() },
		func(v reflect.Value) { v.SetLen(1) },
		func(v reflect.Value) { v.Set(reflect.Append(v, reflect.ValueOf(0))) },
		func(v reflect.Value) { v.Index(0).SetInt(9) },
		func(v reflect.Value) { v.Index(1).SetInt(smallest) },
		func(v reflect.Value) { v.Set(reflect.ValueOf([]int{8, 7})) },
	},
}

func TestNoArgsAreNone(t *testing.T) {
	a, b := api.Code{Op: api.CodeCall}, api.Code{Op: api.CodeCall, Args: []int{}}
	if !Same(a, b) || !Same(b, a) || !Same(api.Code{}, api.Code{}) {
		t.Error("no Args")
	}
	room := []int{1, 2, 3}
	a.Args, b.Args = room[:2], []int{1, 2}
	if !Same(a, b) || !Same(b, a) {
		t.Error("room behind Args")
	}
}
