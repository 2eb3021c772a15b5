package evaluate

import "warmpath/api"

// Apply returns the result of a binary operation, or false if it traps or there is none.
func Apply(op, a, b int) (int, bool) {
	switch op {
	case api.OpAdd:
		return a + b, true
	case api.OpSubtract:
		return a - b, true
	case api.OpMultiply:
		return a * b, true
	case api.OpLess:
		return truth(a < b), true
	case api.OpAtMost:
		return truth(a <= b), true
	case api.OpEqual:
		return truth(a == b), true
	case api.OpUnequal:
		return truth(a != b), true
	}
	if b == 0 {
		return 0, false
	}
	switch op {
	case api.OpDivide:
		return a / b, true
	case api.OpModulo:
		return a % b, true
	}
	return 0, false
}

// Unary returns the result of a unary operation.
func Unary(op, a int) int {
	switch op {
	case api.OpNegate:
		return -a
	case api.OpNot:
		return truth(a == 0)
	}
	return 0
}

func truth(holds bool) int {
	if holds {
		return 1
	}
	return 0
}
