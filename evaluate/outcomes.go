package evaluate

import (
	"slices"

	"warmpath/api"
)

// Same reports whether two outcomes are equal.
func Same(a, b api.Outcome) bool {
	return a.Kind == b.Kind && a.Value == b.Value && a.Trap == b.Trap && slices.Equal(a.Output, b.Output)
}

// Refines reports whether an outcome b is what an outcome a says, as far as a says anything.
func Refines(a, b api.Outcome) bool {
	if a.Kind == api.Exhausted {
		both := min(len(a.Output), len(b.Output))
		return slices.Equal(a.Output[:both], b.Output[:both])
	}
	return Same(a, b)
}
