package lower

import (
	"fmt"
	"strings"
	"testing"

	"warmpath/api"
	"warmpath/flow"
)

// declarations are what the bodies of the next tests can use.
const declarations = "global s; global a[3]; global t; global b[1];\nfunc main() { } func none() { } func one(x) { } func six(x1, x2, x3, x4, x5, x6) { }\n"

// body is the number of the function in which these bodies are, with the parameters p and q.
const body = 4

// bodyOf is the function with a body.
func bodyOf(t *testing.T, text string) api.Function {
	t.Helper()
	p := lowered(t, declarations+"func body(p, q) { "+text+" }")
	isClean(t, p)
	return p.Funcs[body]
}

// areBodies checks what becomes of bodies.
func areBodies(t *testing.T, wanted map[string]string) {
	t.Helper()
	for text, want := range wanted {
		if got := writtenFunc(bodyOf(t, text)); got != want {
			t.Errorf("%s\n%s, not\n%s", text, got, want)
		}
	}
}

func TestPrograms(t *testing.T) {
	got := lowered(t, "global s; func main() { } global a[3];\nfunc f(x, y, z) { var v = 1; }\nfunc main2(x) { return x; } global s2;")
	zero := api.Instr{Kind: api.InstrConst}
	want := api.Program{
		Globals: []api.Global{{Name: "s"}, {Name: "a", Size: 3}, {Name: "s2"}},
		Funcs: []api.Function{
			{Name: "main", Regs: 1, Blocks: []api.Block{{Instrs: []api.Instr{zero}, Term: api.Term{Kind: api.TermReturn}, Line: 1}}},
			{Name: "f", Params: 3, Regs: 5, Blocks: []api.Block{{Instrs: []api.Instr{
				{Kind: api.InstrConst, Dst: 4, Value: 1}, {Kind: api.InstrMove, Dst: 3, A: 4}, {Kind: api.InstrConst, Dst: 4},
			}, Term: api.Term{Kind: api.TermReturn, A: 4}, Line: 2, Origin: api.Spot{Func: 1}}}},
			{Name: "main2", Params: 1, Regs: 2, Blocks: []api.Block{{Instrs: []api.Instr{
				{Kind: api.InstrMove, Dst: 1, A: 0},
			}, Term: api.Term{Kind: api.TermReturn, A: 1}, Line: 3, Origin: api.Spot{Func: 2}}}},
		},
		Callable: 3,
	}
	if !flow.Same(got, want) {
		t.Errorf("%v, not %v", got, want)
	}
}

func TestExprs(t *testing.T) {
	wanted := map[string]string{}
	for text, want := range map[string]string{
		"0": "r2 = 0", "9223372036854775807": "r2 = 9223372036854775807", "read": "r2 = read",
		"&main": "r2 = &f0", "&six": "r2 = &f3", "&body": "r2 = &f4",
		"p": "r2 = r0", "q": "r2 = r1", "s": "r2 = g0", "t": "r2 = g2",
		"a[7]": "r2 = 7; r2 = g1[r2]", "b[q]": "r2 = r1; r2 = g3[r2]", "a[b[s]]": "r2 = g0; r2 = g3[r2]; r2 = g1[r2]", "a[s + b[1]]": "r2 = g0; r3 = 1; r3 = g3[r3]; r2 = r2 + r3; r2 = g1[r2]",
		"-p": "r2 = r0; r2 = - r2", "!s": "r2 = g0; r2 = ! r2", "-!7": "r2 = 7; r2 = ! r2; r2 = - r2", "1 - -2": "r2 = 1; r3 = 2; r3 = - r3; r2 = r2 - r3",
		"1 + p": "r2 = 1; r3 = r0; r2 = r2 + r3", "q * s": "r2 = r1; r3 = g0; r2 = r2 * r3", "8 / 2": "r2 = 8; r3 = 2; r2 = r2 / r3", "8 % 2": "r2 = 8; r3 = 2; r2 = r2 % r3",
		"1 < 2": "r2 = 1; r3 = 2; r2 = r2 < r3", "1 <= 2": "r2 = 1; r3 = 2; r2 = r2 <= r3", "1 == 2": "r2 = 1; r3 = 2; r2 = r2 == r3", "1 != 2": "r2 = 1; r3 = 2; r2 = r2 != r3",
		"1 - 2 - 3":                   "r2 = 1; r3 = 2; r2 = r2 - r3; r3 = 3; r2 = r2 - r3",
		"1 - (2 - 3)":                 "r2 = 1; r3 = 2; r4 = 3; r3 = r3 - r4; r2 = r2 - r3",
		"none()":                      "r2 = f1()",
		"one(p)":                      "r2 = r0; r2 = f2(r2)",
		"main() + one(one(s))":        "r2 = f0(); r3 = g0; r3 = f2(r3); r3 = f2(r3); r2 = r2 + r3",
		"body(1, one(2))":             "r2 = 1; r3 = 2; r3 = f2(r3); r2 = f4(r2, r3)",
		"six(1, 2, 3, 4, 5, -6)":      "r2 = 1; r3 = 2; r4 = 3; r5 = 4; r6 = 5; r7 = 6; r7 = - r7; r2 = f3(r2, r3, r4, r5, r6, r7)",
		"p()":                         "r2 = r0; r2 = r2()",
		"s(7)":                        "r2 = g0; r3 = 7; r2 = r2(r3)",
		"7(p, q)":                     "r2 = 7; r3 = r0; r4 = r1; r2 = r2(r3, r4)",
		"(&six)(1, 2, 3, 4, 5, q(6))": "r2 = &f3; r3 = 1; r4 = 2; r5 = 3; r6 = 4; r7 = 5; r8 = r1; r9 = 6; r8 = r8(r9); r2 = r2(r3, r4, r5, r6, r7, r8)",
		"none()(one(1))(2)":           "r2 = f1(); r3 = 1; r3 = f2(r3); r2 = r2(r3); r3 = 2; r2 = r2(r3)",
	} {
		wanted["return "+text+";"] = want + "; return r2"
		wanted["print "+text+"; return 1;"] = want + "; print r2; r2 = 1; return r2"
	}
	areBodies(t, wanted)
}

// TestAndOr has what && and || become, alone and within others.
func TestAndOr(t *testing.T) {
	areBodies(t, map[string]string{
		"return p && 7;":        "r2 = r0; r2 ? 1 : 3 | r2 = 7; r2 ? 2 : 3 | r2 = 1; to 4 | r2 = 0; to 4 | return r2",
		"return p || 7;":        "r2 = r0; r2 ? 2 : 1 | r2 = 7; r2 ? 2 : 3 | r2 = 1; to 4 | r2 = 0; to 4 | return r2",
		"return 3 - (p && 7);":  "r2 = 3; r3 = r0; r3 ? 1 : 3 | r3 = 7; r3 ? 2 : 3 | r3 = 1; to 4 | r3 = 0; to 4 | r2 = r2 - r3; return r2",
		"return (p || 7) - 3;":  "r2 = r0; r2 ? 2 : 1 | r2 = 7; r2 ? 2 : 3 | r2 = 1; to 4 | r2 = 0; to 4 | r3 = 3; r2 = r2 - r3; return r2",
		"return p && q && s;":   "r2 = r0; r2 ? 1 : 3 | r2 = r1; r2 ? 2 : 3 | r2 = 1; to 4 | r2 = 0; to 4 | r2 ? 5 : 7 | r2 = g0; r2 ? 6 : 7 | r2 = 1; to 8 | r2 = 0; to 8 | return r2",
		"return p && (q || s);": "r2 = r0; r2 ? 1 : 7 | r2 = r1; r2 ? 3 : 2 | r2 = g0; r2 ? 3 : 4 | r2 = 1; to 5 | r2 = 0; to 5 | r2 ? 6 : 7 | r2 = 1; to 8 | r2 = 0; to 8 | return r2",
		"a[s] = p || q;":        "r2 = g0; r3 = r0; r3 ? 2 : 1 | r3 = r1; r3 ? 2 : 3 | r3 = 1; to 4 | r3 = 0; to 4 | g1[r2] = r3; r2 = 0; return r2",
		"return p || (q && s);": "r2 = r0; r2 ? 6 : 1 | r2 = r1; r2 ? 2 : 4 | r2 = g0; r2 ? 3 : 4 | r2 = 1; to 5 | r2 = 0; to 5 | r2 ? 6 : 7 | r2 = 1; to 8 | r2 = 0; to 8 | return r2",
	})
}

func TestStmts(t *testing.T) {
	wanted := map[string]string{"return 7;": "r2 = 7; return r2", "return one(q);": "r2 = r1; r2 = f2(r2); return r2"}
	for text, want := range map[string]string{
		"":                 "",
		"p = q;":           "r2 = r1; r0 = r2; ",
		"q = 1 + p;":       "r2 = 1; r3 = r0; r2 = r2 + r3; r1 = r2; ",
		"s = 7; t = s;":    "r2 = 7; g0 = r2; r2 = g0; g2 = r2; ",
		"a[7] = 8;":        "r2 = 7; r3 = 8; g1[r2] = r3; ",
		"b[a[1]] = 2 + p;": "r2 = 1; r2 = g1[r2]; r3 = 2; r4 = r0; r3 = r3 + r4; g3[r2] = r3; ",
		"print q;":         "r2 = r1; print r2; ",
		"call 7;":          "r2 = 7; ",
		"call none();":     "r2 = f1(); ",
		"call s(q);":       "r2 = g0; r3 = r1; r2 = r2(r3); ",
	} {
		wanted[text] = want + "r2 = 0; return r2"
	}
	areBodies(t, wanted)
}

// TestLocals has variables, which are behind the parameters, also those of statements that are left out.
func TestLocals(t *testing.T) {
	areBodies(t, map[string]string{
		"var v = 7;":            "r3 = 7; r2 = r3; r3 = 0; return r3",
		"var v = p; var w = v;": "r4 = r0; r2 = r4; r4 = r2; r3 = r4; r4 = 0; return r4",
		"var z = 1; var y = 2; z = y; y = q; a[y] = z;":                      "r4 = 1; r2 = r4; r4 = 2; r3 = r4; r4 = r3; r2 = r4; r4 = r1; r3 = r4; r4 = r3; r5 = r2; g1[r4] = r5; r4 = 0; return r4",
		"if p { var v = 1; } else { var w = 2; } var x = 3; return v(w, x);": "r5 = r0; r5 ? 1 : 2 | r5 = 1; r2 = r5; to 3 | r5 = 2; r3 = r5; to 3 | r5 = 3; r4 = r5; r5 = r2; r6 = r3; r7 = r4; r5 = r5(r6, r7); return r5",
		"return 1; var v = 2;": "r3 = 1; return r3",
		"if p { return q; var v = 2; } var w = 3; print w; p = v;": "r4 = r0; r4 ? 1 : 2 | r4 = r1; return r4 | r4 = 3; r3 = r4; r4 = r3; print r4; r4 = r2; r0 = r4; r4 = 0; return r4",
	})
}

func TestIf(t *testing.T) {
	wanted := map[string]string{}
	for text, want := range map[string]string{
		"if p { }":                                                         "1 : 2 | to 2 | ",
		"if p { } else { }":                                                "1 : 2 | to 2 | ",
		"if p { print 1; }":                                                "1 : 2 | r2 = 1; print r2; to 2 | ",
		"if p { print 1; } else { }":                                       "1 : 2 | r2 = 1; print r2; to 2 | ",
		"if p { } else { print 1; }":                                       "1 : 2 | to 3 | r2 = 1; print r2; to 3 | ",
		"if p { print 1; } else { print 2; }":                              "1 : 2 | r2 = 1; print r2; to 3 | r2 = 2; print r2; to 3 | ",
		"if p { return 1; }":                                               "1 : 2 | r2 = 1; return r2 | ",
		"if p { return 1; } else { }":                                      "1 : 2 | r2 = 1; return r2 | ",
		"if p { } else { return 1; }":                                      "1 : 2 | to 3 | r2 = 1; return r2 | ",
		"if p { return 1; } else { print 2; }":                             "1 : 2 | r2 = 1; return r2 | r2 = 2; print r2; to 3 | ",
		"if p { print 2; } else { return 1; print 3; }":                    "1 : 2 | r2 = 2; print r2; to 3 | r2 = 1; return r2 | ",
		"if p { if q { print 1; } } else { print 2; }":                     "1 : 4 | r2 = r1; r2 ? 2 : 3 | r2 = 1; print r2; to 3 | to 5 | r2 = 2; print r2; to 5 | ",
		"if p { print 2; } else { if q { print 1; } }":                     "1 : 2 | r2 = 2; print r2; to 5 | r2 = r1; r2 ? 3 : 4 | r2 = 1; print r2; to 4 | to 5 | ",
		"if p { if q { return 1; } else { return 2; } } else { print 3; }": "1 : 4 | r2 = r1; r2 ? 2 : 3 | r2 = 1; return r2 | r2 = 2; return r2 | r2 = 3; print r2; to 5 | ",
		"if p { print 3; } else { if q { return 1; } else { return 2; } }": "1 : 2 | r2 = 3; print r2; to 5 | r2 = r1; r2 ? 3 : 4 | r2 = 1; return r2 | r2 = 2; return r2 | ",
		"if p { if q { return 1; } } else { return 2; }":                   "1 : 4 | r2 = r1; r2 ? 2 : 3 | r2 = 1; return r2 | to 5 | r2 = 2; return r2 | ",
		"if p { while q { return 1; } } else { return 2; }":                "1 : 5 | to 2 | r2 = r1; r2 ? 3 : 4 | r2 = 1; return r2 | to 6 | r2 = 2; return r2 | ",
	} {
		wanted[text] = "r2 = r0; r2 ? " + want + "r2 = 0; return r2"
		wanted[text+" print 9; return 8;"] = "r2 = r0; r2 ? " + want + "r2 = 9; print r2; r2 = 8; return r2"
	}
	wanted["if p && q { print 1; }"] = "r2 = r0; r2 ? 1 : 3 | r2 = r1; r2 ? 2 : 3 | r2 = 1; to 4 | r2 = 0; to 4 | r2 ? 5 : 6 | r2 = 1; print r2; to 6 | r2 = 0; return r2"
	areBodies(t, wanted)
}

func TestWhile(t *testing.T) {
	wanted := map[string]string{}
	for text, want := range map[string]string{
		"while p { }":                             "to 1 | r2 = r0; r2 ? 2 : 3 | to 1 | ",
		"while p { print 1; }":                    "to 1 | r2 = r0; r2 ? 2 : 3 | r2 = 1; print r2; to 1 | ",
		"while p { return 1; }":                   "to 1 | r2 = r0; r2 ? 2 : 3 | r2 = 1; return r2 | ",
		"while 1 { p = q; }":                      "to 1 | r2 = 1; r2 ? 2 : 3 | r2 = r1; r0 = r2; to 1 | ",
		"while p { while q { } }":                 "to 1 | r2 = r0; r2 ? 2 : 6 | to 3 | r2 = r1; r2 ? 4 : 5 | to 3 | to 1 | ",
		"while p { } while q { }":                 "to 1 | r2 = r0; r2 ? 2 : 3 | to 1 | to 4 | r2 = r1; r2 ? 5 : 6 | to 4 | ",
		"while p && q { }":                        "to 1 | r2 = r0; r2 ? 2 : 4 | r2 = r1; r2 ? 3 : 4 | r2 = 1; to 5 | r2 = 0; to 5 | r2 ? 6 : 7 | to 1 | ",
		"while p { if q { return 1; } print 2; }": "to 1 | r2 = r0; r2 ? 2 : 5 | r2 = r1; r2 ? 3 : 4 | r2 = 1; return r2 | r2 = 2; print r2; to 1 | ",
		"while p { if q { return 1; } else { return 2; } print 3; }":              "to 1 | r2 = r0; r2 ? 2 : 5 | r2 = r1; r2 ? 3 : 4 | r2 = 1; return r2 | r2 = 2; return r2 | ",
		"print 4; while p { while q { return 1; } return 2; while 3 { } p = 5; }": "r2 = 4; print r2; to 1 | r2 = r0; r2 ? 2 : 6 | to 3 | r2 = r1; r2 ? 4 : 5 | r2 = 1; return r2 | r2 = 2; return r2 | ",
	} {
		wanted[text] = want + "r2 = 0; return r2"
		wanted[text+" print 9; return 8;"] = want + "r2 = 9; print r2; r2 = 8; return r2"
	}
	areBodies(t, wanted)
}

// TestLeftOut has statements behind those that do not reach their end.
func TestLeftOut(t *testing.T) {
	for text, want := range map[string]string{
		"return 1;":                             "r2 = 1; return r2",
		"if p { return 1; } else { return 2; }": "r2 = r0; r2 ? 1 : 2 | r2 = 1; return r2 | r2 = 2; return r2",
		"if p { if q { return 1; } else { return 2; } } else { return 3; }":                            "r2 = r0; r2 ? 1 : 4 | r2 = r1; r2 ? 2 : 3 | r2 = 1; return r2 | r2 = 2; return r2 | r2 = 3; return r2",
		"if p { return 3; } else { print 4; if q { return 1; } else { return 2; } return 5; }":         "r2 = r0; r2 ? 1 : 2 | r2 = 3; return r2 | r2 = 4; print r2; r2 = r1; r2 ? 3 : 4 | r2 = 1; return r2 | r2 = 2; return r2",
		"if p { print 6; return 1; print 6; } else { while q { } return 2; if p { } else { p = 3; } }": "r2 = r0; r2 ? 1 : 2 | r2 = 6; print r2; r2 = 1; return r2 | to 3 | r2 = r1; r2 ? 4 : 5 | to 3 | r2 = 2; return r2",
	} {
		for _, behind := range []string{"", "print 9;", "return 9;", "if 9 { }", "if 9 { print 8; } else { print 7; }", "while 9 { }", "print p && q; s = 1; a[1] = six(1, 2, 3, 4, 5, 6); call s(1);", "return 9; return 8; return 7;"} {
			areBodies(t, map[string]string{text + behind: want})
			if f := bodyOf(t, text+behind); f.Regs != 3 {
				t.Errorf("%s%s: %d registers", text, behind, f.Regs)
			}
		}
	}
}

func TestRegisters(t *testing.T) {
	for text, want := range map[string]int{
		"": 3, "return 1;": 3, "return 1 + 2;": 4, "return p - q;": 4, "return -p;": 3, "return a[1];": 3, "return none();": 3, "return one(1);": 3, "return body(1, 2);": 4, "return six(1, 2, 3, 4, 5, 6);": 8,
		"return p();": 3, "return p(1);": 4, "return p(1, 2, 3, 4, 5, 6);": 9, "return 1 + (2 + (3 + 4));": 6, "return 1 + 2 + 3 + 4;": 4, "return p && q;": 3, "return p && (1 + 2);": 4, "return (1 + (2 + 3)) || q;": 5, "return 1 + (p || q);": 4,
		"a[1] = 2;": 4, "a[1] = 2 + 3;": 5, "a[1 + (2 + 3)] = 2;": 5, "var v = 1;": 4, "var v = 1 + 2; var w = v;": 6, "if 1 + 2 { }": 4, "while 1 + 2 { }": 4, "while p { print 1 + (2 + 3); }": 5, "if p { } else { print 1 + (2 + 3); }": 5,
		"return six(1, 2, 3, 4, 5, six(1, 2, 3, 4, 5, 6));": 13, "return six(six(1, 2, 3, 4, 5, 6), 2, 3, 4, 5, 6);": 8, "return p(1, 2, 3, 4, 5, p(1, 2, 3, 4, 5, 6));": 15, "print 1 + (2 + 3); print 1;": 5, "print 1; print 1 + (2 + 3);": 5,
	} {
		if f := bodyOf(t, text); f.Regs != want || f.Params != 2 {
			t.Errorf("%s: %d registers, %d parameters", text, f.Regs, f.Params)
		}
	}
}

// TestLines has the number of its line ahead of each thing that makes blocks.
func TestLines(t *testing.T) {
	f := lowered(t, `func main() { }
func
f
(p)
{ print p; if
p
{ print
1; print 1; } else {
print 1; }
while
p
&&
(1
||
2) { print
p; if p { return
p &&
1; } }
return
2; }`).Funcs[1]
	var lines []int
	for _, b := range f.Blocks {
		lines = append(lines, b.Line)
	}
	// The while begins in the line 10, && in 12, || in 14, the second if in 16, and the last && in 17.
	if want := "[2 5 5 5 10 12 14 14 14 14 12 12 12 10 16 17 17 17 17 16 10]"; fmt.Sprint(lines) != want {
		t.Errorf("%v, not %s: %s", lines, want, writtenFunc(f))
	}
}

func TestExample(t *testing.T) {
	f := lowered(t, "func main() { if read { print 1; } return 2; }").Funcs[0]
	if got := writtenFunc(f); got != "r0 = read; r0 ? 1 : 2 | r0 = 1; print r0; to 2 | r0 = 2; return r0" || f.Regs != 1 {
		t.Errorf("%s, %d registers", got, f.Regs)
	}
}

// limit checks whether functions with a body are within the limits, and what is returned if not.
func limit(t *testing.T, text string, right bool) {
	t.Helper()
	for _, p := range []string{"func main() { X }", "func main() { } func f() { X } func g() { }", "func main() { } func f() { X } func g() { X }", "func main() { return 1; } func f() { } func g() { } func h() { X }"} {
		q, e := Lower(resolved(t, strings.ReplaceAll(p, "X", text)))
		if right && (e != api.OK || flow.Check(q) != api.OK) || !right && (e != api.ErrLimit || !flow.Same(q, api.Program{})) {
			t.Errorf("%s, %.100s: %d", p, text, e)
		}
	}
}

// TestLimits is at the limits of blocks, of instructions and of registers, and beyond each one.
func TestLimits(t *testing.T) {
	loops := strings.Repeat("while 1 { }", api.MaxBlocks/3)
	limit(t, loops, true)
	limit(t, loops+"if 1 { }", false)
	limit(t, strings.Repeat("if 1 { }", api.MaxBlocks/2-1)+"if 1 { return 1; } else { return 2; }", false)
	limit(t, strings.Repeat("if 1 { }", api.MaxBlocks/2-2)+"if 1 { print 1; } else { }", true)
	limit(t, strings.Repeat("if 1 { }", api.MaxBlocks/2-2)+"if 1 { } else { print 1; }", true)
	limit(t, strings.Repeat("if 1 { }", api.MaxBlocks/2-1)+"return 1; while 1 { }", true)
	limit(t, strings.Repeat("if 1 { }", api.MaxBlocks/2), false)
	limit(t, strings.Repeat("call 1 && 2;", api.MaxBlocks/4-1)+"while 1 { }", true)
	limit(t, strings.Repeat("call 1 || 2;", api.MaxBlocks/4), false)
	limit(t, strings.Repeat("call 1;", api.MaxInstrs-2), true)
	limit(t, strings.Repeat("call 1;", api.MaxInstrs-1), false)
	limit(t, strings.Repeat("call 1;", api.MaxInstrs-2)+"return 1; call 2;", true)
	limit(t, strings.Repeat("call 1;", api.MaxInstrs-2)+"return 1 + 2;", false)
	limit(t, strings.Repeat("if 1{}", 4000), false)
	deep := func(calls, sums int) string {
		return strings.Repeat("(1)(1, 2, 3, 4, 5, ", calls) + strings.Repeat("1 + (", sums) + "1" + strings.Repeat(")", sums+calls)
	}
	limit(t, "return "+deep(41, 3)+";", true)
	limit(t, "return "+deep(41, 4)+";", false)
	limit(t, "return "+deep(62, 0)+";", false)
	limit(t, "return 1; print "+deep(62, 0)+";", true)
	limit(t, "var v = "+deep(41, 2)+";", true)
	limit(t, "var v = "+deep(41, 3)+";", false)
	limit(t, "if "+deep(41, 4)+" { }", false)
	limit(t, strings.Repeat("call 1;", api.MaxInstrs)+"return "+deep(41, 4)+";", false)
}

// TestFullPrograms has as many globals, functions, parameters and locals as there can be.
func TestFullPrograms(t *testing.T) {
	var text strings.Builder
	for i := range api.MaxGlobals {
		text.WriteString(fmt.Sprintf("global g%d; ", i))
	}
	text.WriteString("func main() { ")
	for i := range api.MaxLocals {
		text.WriteString(fmt.Sprintf("var v%d = g%d; ", i, i))
	}
	text.WriteString("return v31; } ")
	for i := range api.MaxFuncs - 1 {
		text.WriteString(fmt.Sprintf("func f%d(a, b, c, d, e, f) { return f%d(a, b, c, d, e, f) + &f%d; } ", i, i, i))
	}
	p := lowered(t, text.String())
	if len(p.Globals) != api.MaxGlobals || len(p.Funcs) != api.MaxFuncs || p.Callable != api.MaxFuncs || p.Counters != 0 || p.Funcs[0].Regs != api.MaxLocals+1 {
		t.Errorf("%d globals, %d functions, %d, %d, %d registers", len(p.Globals), len(p.Funcs), p.Callable, p.Counters, p.Funcs[0].Regs)
	}
	if got := writtenFunc(p.Funcs[0]); !strings.HasSuffix(got, "r32 = g31; r31 = r32; r32 = r31; return r32") {
		t.Error(got)
	}
	if got := writtenFunc(p.Funcs[63]); got != "r6 = r0; r7 = r1; r8 = r2; r9 = r3; r10 = r4; r11 = r5; r6 = f63(r6, r7, r8, r9, r10, r11); r7 = &f63; r6 = r6 + r7; return r6" {
		t.Error(got)
	}
}
