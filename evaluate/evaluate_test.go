package evaluate

import (
	"fmt"
	"math"
	"slices"
	"strings"
	"testing"

	"warmpath/api"
	"warmpath/check"
	"warmpath/syntax"
)

// ample is a limit that no short run reaches.
var ample = api.Limit{Steps: 1 << 20, Depth: api.MaxDepth}

// resolved is the program of a text with resolved names.
func resolved(t *testing.T, text string) api.Source {
	t.Helper()
	p, line, e := syntax.Parse(text)
	if e == api.OK {
		p, line, e = check.Resolve(p)
	}
	if e != api.OK {
		t.Fatalf("%q: line %d, %d", text, line, e)
	}
	return p
}

func returned(value int, output ...int) api.Outcome {
	return api.Outcome{Kind: api.Returned, Value: value, Output: output}
}

func trapped(trap int, output ...int) api.Outcome {
	return api.Outcome{Kind: api.Trapped, Trap: trap, Output: output}
}

func exhausted(output ...int) api.Outcome {
	return api.Outcome{Kind: api.Exhausted, Output: output}
}

// isRun checks all that is said of a run.
func isRun(t *testing.T, text string, input []int, l api.Limit, want api.Outcome, wantSteps int) {
	t.Helper()
	got, steps := Run(resolved(t, text), input, l)
	if fmt.Sprint(got) != fmt.Sprint(want) || steps != wantSteps {
		t.Errorf("%.300s\n%.300s, %v: %.300s, %d steps, not %.300s, %d", text, fmt.Sprint(input), l, fmt.Sprint(got), steps, fmt.Sprint(want), wantSteps)
	}
}

// isMain checks the run of a function main with such a body.
func isMain(t *testing.T, body string, want api.Outcome, wantSteps int) {
	t.Helper()
	isRun(t, "func main() { "+body+" }", nil, ample, want, wantSteps)
}

func TestExample(t *testing.T) {
	isMain(t, "print 7 / 2; return 0 - 7 % 2;", returned(-1, 3), 10)
	isMain(t, "print 7 / 2;", returned(0, 3), 4)
}

func TestStatements(t *testing.T) {
	isMain(t, "", returned(0), 0)
	isMain(t, "return 5;", returned(5), 2)
	isMain(t, "return 1; return 2;", returned(1), 2)
	isMain(t, "var x = 7;", returned(0), 2)
	isMain(t, "var x = 7; return x;", returned(7), 4)
	isMain(t, "var x = 7; x = x + 1; return x;", returned(8), 8)
	isMain(t, "print 1; print -2; print 1;", returned(0, 1, -2, 1), 7)
	isMain(t, "call 5; return 6;", returned(6), 4)
	isMain(t, "if 1 { print 2; } else { print 3; } print 4;", returned(0, 2, 4), 6)
	isMain(t, "if 0 { print 2; } else { print 3; } print 4;", returned(0, 3, 4), 6)
	isMain(t, "if -1 { print 2; }", returned(0, 2), 5)
	isMain(t, "if 0 { print 2; }", returned(0), 2)
	isMain(t, "if 2 { } else { print 2; }", returned(0), 2)
	isMain(t, "if 1 { return 2; } return 3;", returned(2), 4)
	isMain(t, "if 0 { return 2; } else { return 3; } return 4;", returned(3), 4)
	isMain(t, "if 1 { if 0 { } else { return 2; } print 9; } return 3;", returned(2), 6)
	isMain(t, "while 0 { print 1; }", returned(0), 2)
	isMain(t, "while 1 { return 7; } return 8;", returned(7), 4)
	isMain(t, "var i = 0; while i < 2 { i = i + 1; }", returned(0), 22)
	isMain(t, "var i = 3; while i { print i; i = i - 1; } return i;", returned(0, 3, 2, 1), 2+2+3*(2+4+2)+2)
	isMain(t, "var i = -1; while i { i = i + 1; }", returned(0), 3+2+4+2)
	isMain(t, "while 1 { while 1 { if 1 { return 4; } } }", returned(4), 8)
}

func TestExprsOfRuns(t *testing.T) {
	const declarations = "global s; global a[3]; func f(x, y) { return x * 10 + y; } func none() { } func one(x) { return -x; }"
	for expr, want := range map[string]struct{ value, steps int }{
		"7": {7, 1}, "9223372036854775807": {math.MaxInt, 1}, "l": {2, 1}, "s": {3, 1}, "a[1]": {4, 2}, "a[0]": {0, 2}, "a[l]": {5, 2}, "a[a[1] - s]": {4, 5}, "read": {40, 1}, "read - read": {-1, 3}, "(read + read) + (read + read)": {81, 7},
		"-l": {-2, 2}, "!l": {0, 2}, "!0": {1, 2}, "!!l": {1, 3}, "--l": {2, 3}, "-(-9223372036854775807 - 1)": {math.MinInt, 5},
		"l + 3": {5, 3}, "l - 3": {-1, 3}, "l * 3": {6, 3}, "7 / l": {3, 3}, "-7 / l": {-3, 4}, "-7 % l": {-1, 4}, "7 % -l": {1, 4}, "l < 3": {1, 3}, "l < 2": {0, 3}, "l <= 2": {1, 3}, "l <= 1": {0, 3}, "l == 2": {1, 3}, "l == 3": {0, 3}, "l != 2": {0, 3}, "l != 3": {1, 3},
		"9223372036854775807 + 1": {math.MinInt, 3}, "(-9223372036854775807 - 1) / -1": {math.MinInt, 7}, "(-9223372036854775807 - 1) % -1": {0, 7}, "1 - 2 - 3": {-4, 5}, "1 + 2 * 3": {7, 5},
		"0 && 0": {0, 2}, "0 && 5": {0, 2}, "5 && 0": {0, 3}, "5 && 7": {1, 3}, "-1 && -1": {1, 5}, "0 || 0": {0, 3}, "0 || 5": {1, 3}, "5 || 0": {1, 2}, "-5 || 7": {1, 3}, "0 && 1 / 0": {0, 2}, "5 || 1 / 0": {1, 2}, "0 && 1 || 6": {1, 4}, "0 && a[9] || 0": {0, 4}, "5 || 0 && 0": {1, 2},
		"f(1, 2)": {12, 9}, "f(f(1, 2), 3)": {123, 17}, "none()": {0, 1}, "none() + none()": {0, 3}, "one(l)": {-2, 5}, "one(one(l))": {2, 9},
		"&main": {0, 1}, "&f": {1, 1}, "&none": {2, 1}, "&one": {3, 1}, "&one + &f": {4, 3}, "&none()": {0, 2}, "&f(1, 2)": {12, 10}, "1(1, 2)": {12, 10}, "(&one - 1)()": {0, 4}, "s(l)": {-2, 6}, "(1 + l)(5)": {-5, 8}, "l()": {0, 2}, "(none() + 1)(1, 2)": {12, 12},
	} {
		text := "func main() { var l = 2; s = 3; a[1] = 4; a[2] = 5; return " + expr + "; } " + declarations
		isRun(t, text, []int{40, 41}, ample, returned(want.value), 11+want.steps)
	}
}

// watched is a program of a body in which say and pick print what they get, and pick gives its second argument.
func watched(body string) string {
	return "global g; global a[3]; global b[1];\nfunc main() { " + body + " }\nfunc say(x) { print x; return x; }\nfunc pick(x, y) { print x; return y; }\nfunc three(x, y, z) { print 0; return x + y + z; }\nfunc bad(x) { print x; return 1 / 0; }"
}

// TestOrder shows in which order parts are evaluated, and which ones are.
func TestOrder(t *testing.T) {
	for body, want := range map[string]api.Outcome{
		"return say(1) + say(2) * say(3);":                                      returned(7, 1, 2, 3),
		"return (say(1) + say(2)) - (say(3) - say(4));":                         returned(4, 1, 2, 3, 4),
		"return three(say(1), say(2), say(3));":                                 returned(6, 1, 2, 3, 0),
		"return pick(9, &three)(say(1), say(2), say(3));":                       returned(6, 9, 1, 2, 3, 0),
		"return pick(say(1), say(2)) + say(3);":                                 returned(5, 1, 2, 1, 3),
		"return say(0) && say(1);":                                              returned(0, 0),
		"return say(2) && say(3);":                                              returned(1, 2, 3),
		"return say(2) && say(0);":                                              returned(0, 2, 0),
		"return say(0) || say(3);":                                              returned(1, 0, 3),
		"return say(2) || say(3);":                                              returned(1, 2),
		"return say(0) || say(0);":                                              returned(0, 0, 0),
		"return say(0) && say(1) || say(2) && say(3);":                          returned(1, 0, 2, 3),
		"a[say(1)] = say(2); return a[1];":                                      returned(2, 1, 2),
		"a[say(1)] = pick(5, a[1] + 1); a[1] = a[1] + 1; return a[1];":          returned(2, 1, 5),
		"if say(0) { print 5; } else { print say(6); }":                         returned(0, 0, 6, 6),
		"var i = 0; while say(i) < 2 { i = i + 1; }":                            returned(0, 0, 1, 2),
		"print read * 100 + read * 10 + read;":                                  returned(0, 456),
		"return three(read, read * 10, read * 100);":                            returned(654, 0),
		"a[read - 3] = read; return a[1] + read;":                               returned(11),
		"g = 1; g = g + pick(3, 1) + g; return g;":                              returned(3, 3),
		"return say(1) / say(0) + say(2);":                                      trapped(api.TrapDivide, 1, 0),
		"return say(1) % say(0) + say(2);":                                      trapped(api.TrapDivide, 1, 0),
		"print say(1) / 0;":                                                     trapped(api.TrapDivide, 1),
		"a[say(3)] = say(2); print 9;":                                          trapped(api.TrapIndex, 3, 2),
		"a[say(3)] = bad(2);":                                                   trapped(api.TrapDivide, 3, 2),
		"a[bad(3)] = say(2);":                                                   trapped(api.TrapDivide, 3),
		"return a[say(-1)] + say(2);":                                           trapped(api.TrapIndex, -1),
		"return say(4) + a[3] + say(2);":                                        trapped(api.TrapIndex, 4),
		"return pick(9, 100)(say(1), say(2));":                                  trapped(api.TrapValue, 9, 1, 2),
		"return pick(9, &say)(say(1), say(2));":                                 trapped(api.TrapValue, 9, 1, 2),
		"return pick(9, 100)(say(1), bad(2), say(3));":                          trapped(api.TrapDivide, 9, 1, 2),
		"return bad(9)(say(1));":                                                trapped(api.TrapDivide, 9),
		"return three(say(1), bad(2), say(3));":                                 trapped(api.TrapDivide, 1, 2),
		"if bad(1) { print 5; } else { print 6; } print 7;":                     trapped(api.TrapDivide, 1),
		"while bad(1) { print 5; } print 7;":                                    trapped(api.TrapDivide, 1),
		"var i = 2; while say(6 / i) { i = i - 1; } print 7;":                   trapped(api.TrapDivide, 3, 6),
		"while 1 { if say(1) { g = bad(2); } print 3; } print 7;":               trapped(api.TrapDivide, 1, 2),
		"if 0 { } else { while 1 { call say(b[1]); } } print 7;":                trapped(api.TrapIndex),
		"return -bad(1) + say(2);":                                              trapped(api.TrapDivide, 1),
		"return !a[bad(1)];":                                                    trapped(api.TrapDivide, 1),
		"return say(0) || bad(1);":                                              trapped(api.TrapDivide, 0, 1),
		"return bad(1) && say(0);":                                              trapped(api.TrapDivide, 1),
		"return bad(1) || say(1);":                                              trapped(api.TrapDivide, 1),
		"call say(1); call bad(2); call say(3);":                                trapped(api.TrapDivide, 1, 2),
		"var x = say(1) + bad(2); print 3;":                                     trapped(api.TrapDivide, 1, 2),
		"g = 1 / g; print 3;":                                                   trapped(api.TrapDivide),
		"call pick(1, 2)(3); print 4;":                                          trapped(api.TrapValue, 1),
		"return say(1) + main_value() + say(2); } func main_value() { print 8;": returned(3, 1, 8, 2),
	} {
		got, steps := Run(resolved(t, watched(body)), []int{4, 5, 6}, ample)
		if fmt.Sprint(got) != fmt.Sprint(want) || steps < 2 {
			t.Errorf("%s: %v, not %v, %d steps", body, got, want, steps)
		}
	}
}

func TestTraps(t *testing.T) {
	const around = "global s; global a[3]; global b[1024]; global c[1]; func two(x, y) { print 9; } func main2() { print 8; }\n"
	for _, c := range []struct {
		body string
		want api.Outcome
	}{
		{"return a[0] + a[2] + b[0] + b[1023] + c[0];", returned(0)}, {"a[0] = 1; a[2] = 3; b[1023] = 4; c[0] = 5; return a[0] + a[1] + a[2] + b[1023] + c[0];", returned(13)},
		{"return a[-1];", trapped(api.TrapIndex)}, {"return a[3];", trapped(api.TrapIndex)}, {"return a[9223372036854775807];", trapped(api.TrapIndex)}, {"return a[-9223372036854775807 - 1];", trapped(api.TrapIndex)}, {"return b[1024];", trapped(api.TrapIndex)}, {"return c[1];", trapped(api.TrapIndex)}, {"return c[4294967296];", trapped(api.TrapIndex)},
		{"a[-1] = 5;", trapped(api.TrapIndex)}, {"a[3] = 5;", trapped(api.TrapIndex)}, {"b[1024] = 5;", trapped(api.TrapIndex)}, {"c[1] = 5;", trapped(api.TrapIndex)}, {"c[-4294967296] = 5;", trapped(api.TrapIndex)},
		{"return 1 / 0;", trapped(api.TrapDivide)}, {"return 1 % 0;", trapped(api.TrapDivide)}, {"return 0 / 0;", trapped(api.TrapDivide)}, {"return 0 % s;", trapped(api.TrapDivide)}, {"return 0 / 5;", returned(0)},
		{"return 1(1, 2);", returned(0, 9)}, {"return 2();", returned(0, 8)}, {"return (2)();", returned(0, 8)}, {"return 1();", trapped(api.TrapValue)}, {"return 1(1);", trapped(api.TrapValue)}, {"return 1(1, 2, 3);", trapped(api.TrapValue)}, {"return 2(1);", trapped(api.TrapValue)},
		{"return 3();", trapped(api.TrapValue)}, {"return (-1)();", trapped(api.TrapValue)}, {"return 9223372036854775807();", trapped(api.TrapValue)}, {"return (-9223372036854775807 - 1)();", trapped(api.TrapValue)}, {"return (s - 1)();", trapped(api.TrapValue)}, {"return 0(1);", trapped(api.TrapValue)}, {"return &two();", trapped(api.TrapValue)}, {"return &two(3, 4);", returned(0, 9)},
	} {
		got, _ := Run(resolved(t, "func main() { "+c.body+" }\n"+around), nil, ample)
		if fmt.Sprint(got) != fmt.Sprint(c.want) {
			t.Errorf("%s: %v, not %v", c.body, got, c.want)
		}
	}
}

// TestStepsOfTraps counts what had begun.
func TestStepsOfTraps(t *testing.T) {
	isMain(t, "print 1; print 2 / 0; print 3;", trapped(api.TrapDivide, 1), 6)
	isMain(t, "return -(1 + 2 % 0) * 3;", trapped(api.TrapDivide), 8)
	isRun(t, "global a[2]; func main() { return a[2] + 1; }", nil, ample, trapped(api.TrapIndex), 4)
	isRun(t, "global a[2]; func main() { a[2] = 1 + 1; }", nil, ample, trapped(api.TrapIndex), 5)
	isMain(t, "return 5(1, 2 + 3);", trapped(api.TrapValue), 7)
	isRun(t, "func main() { return f(1) + 2; } func f(x) { while x { return 1 / (x - 1); } }", nil, ample, trapped(api.TrapDivide), 12)
}

func TestReading(t *testing.T) {
	const text = "func main() { print read; print read; print read; if read { return read; } return 9; }"
	isRun(t, text, nil, ample, returned(9, 0, 0, 0), 10)
	isRun(t, text, []int{5}, ample, returned(9, 5, 0, 0), 10)
	isRun(t, text, []int{5, -6, math.MinInt}, ample, returned(9, 5, -6, math.MinInt), 10)
	isRun(t, text, []int{5, 6, 7, 1}, ample, returned(0, 5, 6, 7), 10)
	isRun(t, text, []int{0, 0, 0, -1, math.MaxInt, 3}, ample, returned(math.MaxInt, 0, 0, 0), 10)
	isRun(t, "func main() { return read + f() * 10 + read * 100; } func f() { return read; }", []int{1, 2, 3}, ample, returned(321), 12)
}

// TestVariables shows what is 0 at first, and whose variables are changed.
func TestVariables(t *testing.T) {
	for text, want := range map[string]api.Outcome{
		// Globals are those of all functions.
		"global g; global a[2]; global h; func main() { call f(); call f(); print g; print h; print a[0]; print a[1]; } func f() { g = g + 1; a[1] = a[1] + g; }": returned(0, 2, 0, 0, 3),
		// A variable that was not declared yet is 0, and keeps its value in a loop.
		"func main() { var i = 0; while i < 3 { if i == 1 { var x = 5; } else { print 8; } print x; i = i + 1; } }":              returned(0, 8, 0, 5, 8, 5),
		"func main() { if 0 { var x = 5; } return x; }":                                                                          returned(0),
		"func main() { var i = 0; while i < 2 { var x = x2(i); print x; x = x + 1; i = i + 1; } } func x2(i) { return i * 10; }": returned(0, 0, 10),
		// Locals are those of one call.
		"func main() { var x = 1; call f(5); call f(6); return x; } func f(y) { var i = 0; while i < 1 { i = i + 1; if y == 5 { var x = 7; } } print x; x = x + 2; print x; }":  returned(1, 7, 9, 0, 2),
		"func main() { return f(4); } func f(n) { var m = n; if n { call f(n - 1); } print m; return n; }":                                                                      returned(4, 0, 1, 2, 3, 4),
		"func main() { var p = 3; var q = 4; print f(q, p); print p; print q; } func f(p, q) { p = p * 10; q = q * 100; return p + q; }":                                        returned(0, 340, 3, 4),
		"func main() { print six(1, 2, 3, 4, 5, 6); print 1(6, 5, 4, 3, 2, 1); } func six(a, b, c, d, e, f) { return f + 10 * (e + 10 * (d + 10 * (c + 10 * (b + 10 * a)))); }": returned(0, 123456, 654321),
		"func main() { var x = 2; x = f(x) + x; return x; } func f(x) { x = x + 40; return x; }":                                                                                returned(44),
		// The same name in different functions, and a function that has the name of a local of another program.
		"global g; func main() { var x = 1; g = 2; print x + g; call f(); } func f() { var y = 5; var x = 6; print x - y; print g; }": returned(0, 3, 1, 2),
	} {
		got, _ := Run(resolved(t, text), nil, ample)
		if fmt.Sprint(got) != fmt.Sprint(want) {
			t.Errorf("%s: %v, not %v", text, got, want)
		}
	}
}

// TestMany has as many globals, functions and locals as there can be, each with a number of its own.
func TestMany(t *testing.T) {
	var text strings.Builder
	text.WriteString("func main() { ")
	for i := range api.MaxGlobals {
		fmt.Fprintf(&text, "g%d = %d; ", i, 100+i)
	}
	for i := range api.MaxLocals {
		fmt.Fprintf(&text, "var l%d = %d; ", i, 200+i)
	}
	var want []int
	for i := range api.MaxGlobals {
		fmt.Fprintf(&text, "print g%d; print l%d; ", i, i)
		want = append(want, 100+i, 200+i)
	}
	for i := range api.MaxFuncs - 1 {
		fmt.Fprintf(&text, "print f%d(); print (&f%d)(); print %d(); ", i, i, i+1)
		want = append(want, 300+i, 300+i, 300+i)
	}
	text.WriteString("}\n")
	for i := range api.MaxGlobals {
		fmt.Fprintf(&text, "global g%d; ", i)
	}
	for i := range api.MaxFuncs - 1 {
		fmt.Fprintf(&text, "func f%d() { return %d; } ", i, 300+i)
	}
	got, _ := Run(resolved(t, text.String()), nil, ample)
	if fmt.Sprint(got) != fmt.Sprint(returned(0, want...)) {
		t.Errorf("%v", got)
	}
}

// TestNothingIsKept runs one program again, with another input in between, on slices behind which lies what belongs to somebody else.
func TestNothingIsKept(t *testing.T) {
	p := resolved(t, "global g; global a[2]; func main() { a[1] = a[1] + read; g = g + read; print g; print a[1]; call f(read); return read; } func f(x) { var y = x; x = x + 1; print x + y; }")
	input := []int{1, 2, 3, 4, 5}
	before := fmt.Sprint(p, input)
	first, steps := Run(p, input[:3], ample)
	other, _ := Run(p, input, ample)
	if fmt.Sprint(first) != fmt.Sprint(returned(0, 2, 1, 7)) || fmt.Sprint(other) != fmt.Sprint(returned(4, 2, 1, 7)) {
		t.Errorf("%v, %v", first, other)
	}
	for i := range other.Output {
		other.Output[i] = 99
	}
	_ = append(other.Output, 99)
	again, stepsAgain := Run(p, slices.Clone(input[:3]), ample)
	if !Same(first, again) || steps != stepsAgain || fmt.Sprint(first) != fmt.Sprint(returned(0, 2, 1, 7)) {
		t.Errorf("%v, %d steps, then %v, %d", first, steps, again, stepsAgain)
	}
	if after := fmt.Sprint(p, input); after != before {
		t.Errorf("%s, not %s", after, before)
	}
}
