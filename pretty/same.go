package pretty

import (
	"slices"

	"warmpath/api"
)

// Same reports whether two programs are equal but for lines.
func Same(a, b api.Source) bool {
	return slices.Equal(a.Globals, b.Globals) && slices.EqualFunc(a.Funcs, b.Funcs, sameFunc)
}

// SameExpr reports whether two expressions are equal but for lines.
func SameExpr(a, b api.Expr) bool {
	return a.Kind == b.Kind && a.Op == b.Op && a.Value == b.Value && a.Name == b.Name && slices.EqualFunc(a.Args, b.Args, SameExpr)
}

func sameFunc(a, b api.Func) bool {
	return a.Name == b.Name && slices.Equal(a.Params, b.Params) && sameStmts(a.Body, b.Body)
}

func sameStmts(a, b []api.Stmt) bool { return slices.EqualFunc(a, b, sameStmt) }

func sameStmt(a, b api.Stmt) bool {
	return a.Kind == b.Kind && a.Name == b.Name && slices.EqualFunc(a.Exprs, b.Exprs, SameExpr) && sameStmts(a.Then, b.Then) && sameStmts(a.Else, b.Else)
}
