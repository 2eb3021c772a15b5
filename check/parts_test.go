package check

import (
	"fmt"
	"math/rand"
	"slices"
	"strings"
	"testing"

	"warmpath/api"
	"warmpath/syntax"
)

// parsed is the program of a text.
func parsed(t *testing.T, text string) api.Source {
	t.Helper()
	p, line, e := syntax.Parse(text)
	if e != api.OK {
		t.Fatalf("%q: line %d, %d", text, line, e)
	}
	return p
}

func declaration(name string) api.Stmt { return api.Stmt{Kind: api.StmtVar, Name: name} }

func TestLocals(t *testing.T) {
	for text, want := range map[string]string{
		"func f() { }": "",
		"func f() { x = 1; y[1] = 2; print z; call g(h); }": "",
		"func f(a) { }":                          "a",
		"func f(b, a) { return b; }":             "b a",
		"func f(b) { var a = 1; var c = d; }":    "b a c",
		"func f() { var b = 1; var a = 1; }":     "b a",
		"func f(a, a) { var a = 1; var a = 2; }": "a a a a",
		"func f() { if 1 { var a = 1; var b = 1; } else { var c = 1; var d = 1; } var e = 1; }":                    "a b c d e",
		"func f() { if 1 { } else { var b = 1; } if 1 { var a = 1; } }":                                            "b a",
		"func f(p) { while 1 { var c = 1; while 1 { var b = 1; } var a = 1; } var d = 1; }":                        "p c b a d",
		"func f() { if 1 { if 1 { var d = 1; } else { var c = 1; } } else { while 1 { var b = 1; } } var a = 1; }": "d c b a",
	} {
		f := parsed(t, text).Funcs[0]
		before := fmt.Sprint(f)
		got := Locals(f)
		if strings.Join(got, " ") != want {
			t.Errorf("%q: %q", text, got)
		}
		for i := range got {
			got[i] = "forged"
		}
		_ = append(got, "forged")
		if fmt.Sprint(f) != before {
			t.Errorf("%q: the function was changed", text)
		}
	}
}

// TestLocalsOfAnyTree gives blocks to statements that have none in a text.
func TestLocalsOfAnyTree(t *testing.T) {
	outer := declaration("a")
	outer.Then = []api.Stmt{declaration("b"), {}}
	outer.Else = []api.Stmt{declaration("c")}
	f := api.Func{Params: []string{"", "p"}, Body: []api.Stmt{{Kind: api.StmtPrint, Name: "x", Else: []api.Stmt{outer}}, {Kind: -1, Name: "y"}, {Kind: 99, Then: []api.Stmt{declaration("d")}}}}
	if got := strings.Join(Locals(f), " "); got != " p a b c d" {
		t.Errorf("%q", got)
	}
}

func TestLocalsAreNewMemory(t *testing.T) {
	params := []string{"a", "b", "mine", "mine"}
	f := api.Func{Params: params[:2], Body: []api.Stmt{declaration("c")}}
	for _, body := range [][]api.Stmt{nil, f.Body} {
		f.Body = body
		got := append(Locals(f), "forged")
		got[0] = "forged"
		if want := []string{"a", "b", "mine", "mine"}; !slices.Equal(params, want) {
			t.Errorf("%q", params)
		}
	}
	f.Params = params[:0]
	if got := append(Locals(f), "forged"); len(got) != 2 || params[0] != "a" {
		t.Errorf("%q, %q", got, params)
	}
}

func TestNesting(t *testing.T) {
	for body, want := range map[string]int{
		"": 0, "print 1;": 1, "print 1; return 2;": 1, "var x = ((1 + 2) * f(g(3)));": 1,
		"if 1 { }": 1, "while 1 { }": 1, "if 1 { } else { }": 1,
		"if 1 { print 1; }": 2, "if 1 { } else { print 1; }": 2, "while 1 { print 1; print 2; }": 2,
		"print 1; while 1 { if 1 { print 1; } print 2; } print 3;":                      3,
		"if 1 { } else { if 1 { } else { print 1; } }":                                  3,
		"if 1 { print 1; } else { while 1 { while 1 { } } }":                            3,
		"if 1 { while 1 { while 1 { } } } else { print 1; }":                            3,
		"while 1 { print 1; } while 1 { while 1 { while 1 { print 1; } } } while 1 { }": 4,
		"if 1 { if 1 { if 1 { print 1; } } } else { if 1 { if 1 { print 1; } } }":       4,
	} {
		f := parsed(t, "func f() { "+body+" }").Funcs[0]
		if got := Nesting(f.Body); got != want {
			t.Errorf("%q: %d", body, got)
		}
	}
}

func TestHeight(t *testing.T) {
	for text, want := range map[string]int{
		"1": 1, "x": 1, "read": 1, "&f": 1, "f()": 1, "((x))": 1,
		"-x": 2, "!x": 2, "a[1]": 2, "f(1)": 2, "f(1, 2, 3)": 2, "(f)()": 2, "f()()": 2, "x + 1": 2, "x && 1": 2, "x || 1": 2, "x < 1": 2,
		"f()(1)": 2, "(f)(1, -2)": 3, "f(1)()": 3, "f(1, a[2], 3)": 3, "1 + 2 + 3": 3, "1 + (2 + 3)": 3, "(1 + 2) * (3 + 4)": 3,
		"1 + 2 + 3 + 4": 4, "(1 + 2) + (3 + -4)": 4, "--x + 1": 4, "1 + --x": 4, "a[a[a[a[0]]]]": 5, "f(1, f(2, f(3, f(4))), 5)": 5,
	} {
		x, _, e := syntax.ParseExpr(text)
		if got := Height(x); got != want || e != api.OK {
			t.Errorf("%q: %d, %d", text, got, e)
		}
	}
}

// TestPartsOfAnyTree grows random trees with a known height and nesting, of any kinds.
func TestPartsOfAnyTree(t *testing.T) {
	random := rand.New(rand.NewSource(1))
	for range 2000 {
		height := 1 + random.Intn(20)
		if x := tall(random, height); Height(x) != height {
			t.Fatalf("height %d, not %d: %v", Height(x), height, x)
		}
		nesting := random.Intn(20)
		if l := nested(random, nesting); Nesting(l) != nesting {
			t.Fatalf("nesting %d, not %d: %v", Nesting(l), nesting, l)
		}
	}
}

// tall is a tree of a height: one operand has all but one of it, and the others have less.
func tall(random *rand.Rand, height int) api.Expr {
	x := api.Expr{Kind: random.Intn(16) - 1}
	if height == 1 {
		return x
	}
	x.Args = make([]api.Expr, 1+random.Intn(3))
	whole := random.Intn(len(x.Args))
	for i := range x.Args {
		below := height - 1
		if i != whole {
			below = 1 + random.Intn(min(below, 3))
		}
		x.Args[i] = tall(random, below)
	}
	return x
}

// nested is statements of a nesting.
func nested(random *rand.Rand, nesting int) []api.Stmt {
	if nesting == 0 {
		return nil
	}
	l := make([]api.Stmt, 1+random.Intn(3))
	whole := random.Intn(len(l))
	for i := range l {
		l[i].Kind = random.Intn(11) - 1
		one, other := random.Intn(min(nesting, 3)), random.Intn(min(nesting, 3))
		if i == whole {
			one = nesting - 1
		}
		if random.Intn(2) == 0 {
			one, other = other, one
		}
		l[i].Then, l[i].Else = nested(random, one), nested(random, other)
	}
	return l
}

func TestDeepTrees(t *testing.T) {
	const levels = 1 << 16
	x, body := api.Expr{}, []api.Stmt(nil)
	for i := range levels {
		if x = (api.Expr{Args: []api.Expr{x}}); i%2 == 0 {
			body = []api.Stmt{{Then: body}}
		} else {
			body = []api.Stmt{{Else: body}, {Kind: api.StmtVar, Name: "x"}}
		}
	}
	if Height(x) != levels+1 || Nesting(body) != levels || len(Locals(api.Func{Body: body})) != levels/2 {
		t.Error("deep trees have other parts")
	}
	deep := api.Stmt{Kind: api.StmtPrint, Exprs: []api.Expr{x}}
	for _, body := range [][]api.Stmt{body, {deep}} {
		q, line, e := Resolve(api.Source{Funcs: []api.Func{{Name: "main", Body: body}}})
		if e != api.ErrLimit || line != 0 || len(q.Funcs) > 0 {
			t.Errorf("line %d, %d", line, e)
		}
	}
}
