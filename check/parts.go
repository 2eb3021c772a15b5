package check

import (
	"slices"

	"warmpath/api"
)

// Locals returns the parameters and local variables of a function.
func Locals(f api.Func) []string { return withVariables(slices.Clone(f.Params), f.Body) }

// withVariables appends the names of the variables that statements declare.
func withVariables(names []string, l []api.Stmt) []string {
	for _, s := range l {
		if s.Kind == api.StmtVar {
			names = append(names, s.Name)
		}
		names = withVariables(names, s.Then)
		names = withVariables(names, s.Else)
	}
	return names
}

// Nesting returns the nesting of statements.
func Nesting(l []api.Stmt) int {
	most := 0
	for _, s := range l {
		most = max(most, 1+Nesting(s.Then), 1+Nesting(s.Else))
	}
	return most
}

// Height returns the height of an expression.
func Height(x api.Expr) int {
	most := 0
	for _, arg := range x.Args {
		most = max(most, Height(arg))
	}
	return 1 + most
}
