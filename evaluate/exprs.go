package evaluate

import "warmpath/api"

func (r *run) expr(x *api.Expr) (int, end) {
	if e := r.step(); e.kind != 0 {
		return 0, e
	}
	switch x.Kind {
	case api.ExprNumber, api.ExprFunc:
		return x.Value, end{}
	case api.ExprLocal:
		return r.locals[x.Value], end{}
	case api.ExprGlobal:
		return r.globals[x.Value][0], end{}
	case api.ExprRead:
		return r.read(), end{}
	case api.ExprCall:
		return r.callFunction(x)
	case api.ExprValue:
		return r.callValue(x)
	}
	return r.operation(x)
}

// operation is an expression whose first operand is always evaluated.
func (r *run) operation(x *api.Expr) (int, end) {
	first, e := r.expr(&x.Args[0])
	if e.kind != 0 {
		return 0, e
	}
	switch x.Kind {
	case api.ExprElement:
		place, e := r.element(x.Value, first)
		if e.kind != 0 {
			return 0, e
		}
		return *place, e
	case api.ExprUnary:
		return Unary(x.Op, first), end{}
	case api.ExprAnd:
		if first == 0 {
			return 0, end{}
		}
	case api.ExprOr:
		if first != 0 {
			return 1, end{}
		}
	}
	second, e := r.expr(&x.Args[1])
	switch {
	case e.kind != 0:
		return 0, e
	case x.Kind == api.ExprBinary:
		return applied(x.Op, first, second)
	}
	return truth(second != 0), end{}
}

func applied(op, a, b int) (int, end) {
	value, defined := Apply(op, a, b)
	if !defined {
		return 0, end{api.Trapped, api.TrapDivide}
	}
	return value, end{}
}

func (r *run) exprs(l []api.Expr) ([]int, end) {
	values := make([]int, len(l))
	for i := range l {
		value, e := r.expr(&l[i])
		if e.kind != 0 {
			return nil, e
		}
		values[i] = value
	}
	return values, end{}
}

func (r *run) callFunction(x *api.Expr) (int, end) {
	args, e := r.exprs(x.Args)
	if e.kind != 0 {
		return 0, e
	}
	return r.call(x.Value, args)
}

func (r *run) callValue(x *api.Expr) (int, end) {
	values, e := r.exprs(x.Args)
	if e.kind != 0 {
		return 0, e
	}
	called, args := values[0], values[1:]
	if called < 0 || called >= len(r.funcs) || len(args) != r.funcs[called].params {
		return 0, end{api.Trapped, api.TrapValue}
	}
	return r.call(called, args)
}
