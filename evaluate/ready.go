package evaluate

import (
	"warmpath/api"
	"warmpath/check"
)

// program is a program that is ready to run: its names are numbers.
type program struct {
	sizes []int // how many elements each global has; a scalar is one element
	funcs []function
}

type function struct {
	params, locals int
	body           []stmt
}

// stmt is a statement, in which an assignment to a local is an api.StmtVar, and an api.StmtAssign is one to a scalar.
type stmt struct {
	kind, number    int        // of the variable
	exprs           []api.Expr // Value is the number of the name
	then, otherwise []stmt
}

// numbers are the numbers of names: of locals, and of globals and functions, each of which has a name of its own.
type numbers struct{ locals, outside map[string]int }

// ready makes a resolved program ready to run.
func ready(p api.Source) (q program) {
	outside := map[string]int{}
	for i, g := range p.Globals {
		outside[g.Name] = i
		q.sizes = append(q.sizes, max(g.Size, 1))
	}
	for i, f := range p.Funcs {
		outside[f.Name] = i
	}
	for _, f := range p.Funcs {
		n := numbers{map[string]int{}, outside}
		for i, name := range check.Locals(f) {
			n.locals[name] = i
		}
		q.funcs = append(q.funcs, function{len(f.Params), len(n.locals), n.block(f.Body)})
	}
	return q
}

func (n numbers) block(l []api.Stmt) (numbered []stmt) {
	for _, s := range l {
		numbered = append(numbered, n.stmt(s))
	}
	return numbered
}

func (n numbers) stmt(s api.Stmt) stmt {
	q := stmt{kind: s.Kind, number: n.outside[s.Name], exprs: n.exprs(s.Exprs), then: n.block(s.Then), otherwise: n.block(s.Else)}
	if number, local := n.locals[s.Name]; local {
		q.kind, q.number = api.StmtVar, number
	}
	return q
}

func (n numbers) exprs(l []api.Expr) (numbered []api.Expr) {
	for _, x := range l {
		switch x.Kind {
		case api.ExprLocal:
			x.Value = n.locals[x.Name]
		case api.ExprGlobal, api.ExprElement, api.ExprCall, api.ExprFunc:
			x.Value = n.outside[x.Name]
		}
		x.Args = n.exprs(x.Args)
		numbered = append(numbered, x)
	}
	return numbered
}
