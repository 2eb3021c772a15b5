package evaluate

import (
	"math"
	"math/big"
	"math/rand"
	"testing"

	"warmpath/api"
)

// edges are numbers at which an operation can go wrong.
var edges = []int{0, 1, -1, 2, -2, 3, -3, 7, -7, 10, 63, 64, -64, 1 << 31, 1 << 32, -1 << 32, 1<<62 - 1, 1 << 62, -1 << 62, math.MaxInt - 1, math.MaxInt, math.MinInt, math.MinInt + 1}

// wrapped is a number of any size modulo 2^64, from -2^63 to 2^63 - 1.
func wrapped(n *big.Int) int {
	n = new(big.Int).And(n, new(big.Int).SetUint64(math.MaxUint64))
	return int(n.Uint64())
}

// exact is the result of a binary operation, computed with numbers of any size, and whether there is one.
func exact(op, a, b int) (int, bool) {
	x, y, z := big.NewInt(int64(a)), big.NewInt(int64(b)), new(big.Int)
	holds := map[int]bool{api.OpLess: x.Cmp(y) < 0, api.OpAtMost: x.Cmp(y) <= 0, api.OpEqual: x.Cmp(y) == 0, api.OpUnequal: x.Cmp(y) != 0}
	switch op {
	case api.OpAdd:
		return wrapped(z.Add(x, y)), true
	case api.OpSubtract:
		return wrapped(z.Sub(x, y)), true
	case api.OpMultiply:
		return wrapped(z.Mul(x, y)), true
	case api.OpLess, api.OpAtMost, api.OpEqual, api.OpUnequal:
		if holds[op] {
			return 1, true
		}
		return 0, true
	case api.OpDivide, api.OpModulo:
		if b == 0 {
			return 0, false
		}
		quotient, remainder := z.QuoRem(x, y, new(big.Int))
		if op == api.OpDivide {
			return wrapped(quotient), true
		}
		return wrapped(remainder), true
	}
	return 0, false
}

func isApplied(t *testing.T, op, a, b int) {
	t.Helper()
	want, defined := exact(op, a, b)
	if got, ok := Apply(op, a, b); got != want || ok != defined {
		t.Errorf("%d of %d and %d: %d, %v, not %d, %v", op, a, b, got, ok, want, defined)
	}
}

func TestApply(t *testing.T) {
	random := rand.New(rand.NewSource(1))
	for op := api.OpAdd; op <= api.OpUnequal; op++ {
		for _, a := range edges {
			for _, b := range edges {
				isApplied(t, op, a, b)
			}
		}
		for range 2000 {
			a, b := int(random.Uint64()), int(random.Uint64())>>random.Intn(64)
			isApplied(t, op, a, b)
			isApplied(t, op, b, a)
			isApplied(t, op, b, b)
		}
	}
}

func TestKnownResults(t *testing.T) {
	for _, c := range []struct{ op, a, b, want int }{
		{api.OpAdd, 2, 3, 5}, {api.OpAdd, math.MaxInt, 1, math.MinInt}, {api.OpSubtract, 2, 3, -1}, {api.OpSubtract, math.MinInt, 1, math.MaxInt},
		{api.OpMultiply, -4, 5, -20}, {api.OpMultiply, 1 << 32, 1 << 32, 0}, {api.OpMultiply, math.MinInt, -1, math.MinInt}, {api.OpMultiply, math.MaxInt, 2, -2},
		{api.OpDivide, 7, 2, 3}, {api.OpDivide, -7, 2, -3}, {api.OpDivide, 7, -2, -3}, {api.OpDivide, -7, -2, 3}, {api.OpDivide, 0, 5, 0}, {api.OpDivide, math.MinInt, -1, math.MinInt},
		{api.OpModulo, 7, 2, 1}, {api.OpModulo, -7, 2, -1}, {api.OpModulo, 7, -2, 1}, {api.OpModulo, -7, -2, -1}, {api.OpModulo, 6, 3, 0}, {api.OpModulo, math.MinInt, -1, 0}, {api.OpModulo, math.MinInt, math.MaxInt, -1},
		{api.OpLess, 1, 2, 1}, {api.OpLess, 2, 2, 0}, {api.OpLess, 3, 2, 0}, {api.OpLess, math.MinInt, math.MaxInt, 1}, {api.OpLess, math.MaxInt, math.MinInt, 0},
		{api.OpAtMost, 1, 2, 1}, {api.OpAtMost, 2, 2, 1}, {api.OpAtMost, 3, 2, 0}, {api.OpEqual, 2, 2, 1}, {api.OpEqual, 2, -2, 0}, {api.OpUnequal, 2, 2, 0}, {api.OpUnequal, 2, 3, 1},
	} {
		if got, ok := Apply(c.op, c.a, c.b); got != c.want || !ok {
			t.Errorf("%d of %d and %d: %d, %v, not %d", c.op, c.a, c.b, got, ok, c.want)
		}
	}
}

func TestApplyTraps(t *testing.T) {
	for _, a := range edges {
		for _, op := range []int{api.OpDivide, api.OpModulo} {
			if got, ok := Apply(op, a, 0); got != 0 || ok {
				t.Errorf("%d of %d and 0: %d, %v", op, a, got, ok)
			}
		}
	}
}

func TestNoOperation(t *testing.T) {
	for _, op := range []int{math.MinInt, -api.OpAdd, -1, 0, api.OpNegate, api.OpNot, api.OpUnequal + 1, 13, 99, math.MaxInt} {
		for _, a := range edges {
			for _, b := range edges {
				if got, ok := Apply(op, a, b); got != 0 || ok {
					t.Errorf("%d of %d and %d: %d, %v", op, a, b, got, ok)
				}
			}
			if op == api.OpNegate || op == api.OpNot {
				continue
			}
			if got := Unary(op, a); got != 0 {
				t.Errorf("%d of %d: %d", op, a, got)
			}
		}
	}
	for op := api.OpAdd; op <= api.OpUnequal; op++ {
		if got := Unary(op, 5); got != 0 {
			t.Errorf("%d of 5: %d", op, got)
		}
	}
}

func TestUnary(t *testing.T) {
	for _, a := range edges {
		if got, want := Unary(api.OpNegate, a), wrapped(new(big.Int).Neg(big.NewInt(int64(a)))); got != want {
			t.Errorf("-%d: %d", a, got)
		}
		want := 0
		if a == 0 {
			want = 1
		}
		if got := Unary(api.OpNot, a); got != want {
			t.Errorf("!%d: %d", a, got)
		}
	}
	if Unary(api.OpNegate, 5) != -5 || Unary(api.OpNegate, math.MinInt) != math.MinInt || Unary(api.OpNot, -1) != 0 || Unary(api.OpNot, 0) != 1 {
		t.Error("Unary is wrong")
	}
}
