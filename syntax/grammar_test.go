package syntax

import (
	"math/rand"
	"slices"
	"strconv"
	"strings"
	"testing"

	"warmpath/api"
)

// grammar is the document's. The tests of this file read it and follow all texts that it allows at once (Earley's way), so that they know the first token with which none of them continues.
const grammar = `
source  = { global | func }
global  = "global" name [ "[" number "]" ] ";"
func    = "func" name "(" [ name { "," name } ] ")" block
block   = "{" { stmt } "}"
stmt    = "var" name "=" expr ";" | name "=" expr ";" | name "[" expr "]" "=" expr ";"
        | "if" expr block [ "else" block ] | "while" expr block
        | "return" expr ";" | "print" expr ";" | "call" expr ";"
expr    = and { "||" and }
and     = compare { "&&" compare }
compare = sum [ ( "<" | "<=" | "==" | "!=" ) sum ]
sum     = term { ( "+" | "-" ) term }
term    = unary { ( "*" | "/" | "%" ) unary }
unary   = ( "-" | "!" ) unary | called
called  = primary { "(" [ expr { "," expr } ] ")" }
primary = number | name | name "[" expr "]" | "&" name | "read" | "(" expr ")"
`

// rules are the alternatives of each symbol. What has none is a token.
type rules map[string][][]string

// reader reads the grammar. A bracket becomes a symbol of its own.
type reader struct {
	words    []string
	rules    rules
	brackets int
}

func readGrammar() rules {
	r := &reader{words: strings.Fields(grammar), rules: rules{}}
	for len(r.words) > 0 {
		symbol := r.take()
		r.take() // the sign between a symbol and its alternatives
		r.alternatives(symbol)
	}
	return r.rules
}

func (r *reader) take() string {
	word := r.words[0]
	r.words = r.words[1:]
	return word
}

func (r *reader) ended() bool {
	return len(r.words) == 0 || slices.Contains([]string{"]", "}", ")"}, r.words[0]) || len(r.words) > 1 && r.words[1] == "="
}

func (r *reader) alternatives(symbol string) {
	all := [][]string{nil}
	for !r.ended() {
		word := r.take()
		switch word {
		case "|":
			all = append(all, nil)
			continue
		case "[", "{", "(":
			word = r.bracket(word)
		}
		all[len(all)-1] = append(all[len(all)-1], word)
	}
	r.rules[symbol] = all
}

func (r *reader) bracket(opening string) string {
	r.brackets++
	symbol := "bracket " + strconv.Itoa(r.brackets)
	r.alternatives(symbol)
	r.take() // what closes it
	all := r.rules[symbol]
	if opening == "{" {
		for i := range all {
			all[i] = append(all[i], symbol)
		}
	}
	if opening != "(" {
		all = append(all, nil)
	}
	r.rules[symbol] = all
	return symbol
}

// tokens are the symbols without alternatives, in an order.
func (r rules) tokens() (l []string) {
	for _, all := range r {
		for _, one := range all {
			for _, symbol := range one {
				if len(r[symbol]) == 0 {
					l = append(l, symbol)
				}
			}
		}
	}
	slices.Sort(l)
	return slices.Compact(l)
}

// empty reports whether a symbol can stand for nothing.
func (r rules) empty(symbol string) bool {
	for _, one := range r[symbol] {
		if len(one) == 0 {
			return true
		}
	}
	return false
}

// state is how far an alternative of a symbol has come, which began behind so many tokens.
type state struct {
	symbol            string
	one, passed, from int
}

// chart has, behind each number of tokens, all states of all texts that continue.
type chart struct {
	rules  rules
	start  string
	states [][]state
}

func newChart(r rules, start string) *chart {
	c := &chart{rules: r, start: start}
	var l []state
	for one := range r[start] {
		l = append(l, state{symbol: start, one: one})
	}
	c.push(l)
	return c
}

// ahead is the symbol that comes next, or "".
func (c *chart) ahead(s state) string {
	if one := c.rules[s.symbol][s.one]; s.passed < len(one) {
		return one[s.passed]
	}
	return ""
}

func (s state) further() state {
	s.passed++
	return s
}

// push adds states, and all that follow from them without a token.
func (c *chart) push(l []state) {
	add := func(s state) {
		if !slices.Contains(l, s) {
			l = append(l, s)
		}
	}
	c.states = append(c.states, nil)
	here := len(c.states) - 1
	for i := 0; i < len(l); i++ {
		s := l[i]
		symbol := c.ahead(s)
		if symbol == "" && s.from < here {
			for _, outer := range c.states[s.from] {
				if c.ahead(outer) == s.symbol {
					add(outer.further())
				}
			}
		}
		for one := range c.rules[symbol] {
			add(state{symbol: symbol, one: one, from: here})
		}
		if c.rules.empty(symbol) {
			add(s.further())
		}
	}
	c.states[here] = l
}

// scan continues with a token, and reports whether any text does so.
func (c *chart) scan(token string) bool {
	var l []state
	for _, s := range c.states[len(c.states)-1] {
		if c.ahead(s) == token {
			l = append(l, s.further())
		}
	}
	if len(l) > 0 {
		c.push(l)
	}
	return len(l) > 0
}

func (c *chart) back() { c.states = c.states[:len(c.states)-1] }

// complete reports whether a text can end here.
func (c *chart) complete() bool {
	for _, s := range c.states[len(c.states)-1] {
		if s.symbol == c.start && s.from == 0 && c.ahead(s) == "" {
			return true
		}
	}
	return false
}

// written is a text with these tokens, each of which is in a line of its own.
func written(tokens []string) string {
	var b strings.Builder
	for _, t := range tokens {
		switch t {
		case "number":
			t = "1"
		case "name":
			t = "x"
		}
		b.WriteString(strings.Trim(t, `"`) + "\n")
	}
	return b.String()
}

// agrees checks where the text of some tokens is refused: line 0 is nowhere.
func (c *chart) agrees(t *testing.T, tokens []string, want int) {
	t.Helper()
	text := written(tokens)
	_, line, e := Parse(text)
	if c.start == "expr" {
		_, line, e = ParseExpr(text)
	}
	if line != want || e == api.OK != (want == 0) || e != api.OK && e != api.ErrSyntax {
		t.Fatalf("%q: %d, %d, not line %d", text, line, e, want)
	}
}

// explore checks all continuations by up to so many tokens.
func (c *chart) explore(t *testing.T, tokens, all []string, depth int) {
	end := len(tokens) + 1
	if c.complete() {
		c.agrees(t, tokens, 0)
	} else {
		c.agrees(t, tokens, end)
	}
	if depth == 0 {
		return
	}
	for i, token := range all {
		longer := append(slices.Clone(tokens), token)
		if c.scan(token) {
			c.explore(t, longer, all, depth-1)
			c.back()
		} else {
			c.agrees(t, longer, end)
			c.agrees(t, append(longer, all[(i*7+end)%len(all)]), end)
		}
	}
}

// exploreBehind checks the continuations of a text.
func exploreBehind(t *testing.T, start, text string, depth int) {
	r := readGrammar()
	c := newChart(r, start)
	tokens := strings.Fields(text)
	for i, token := range tokens {
		if token != "name" && token != "number" {
			tokens[i] = `"` + token + `"`
		}
		if !c.scan(tokens[i]) {
			t.Fatalf("%q cannot begin a text", text)
		}
	}
	c.explore(t, tokens, r.tokens(), depth)
}

func TestGrammar(t *testing.T) {
	r := readGrammar()
	if l := r.tokens(); len(l) != 10+22+2 {
		t.Errorf("%d tokens: %q", len(l), l)
	}
	for text, want := range map[string]bool{"": true, "global name ;": true, "global name [ number ] ;": true, "global name [ ] ;": false, "func name ( ) { }": true, "func name ( name ) { return read ; }": true, "func name ( name , ) { }": false} {
		c := newChart(r, "source")
		ok := true
		for _, token := range strings.Fields(text) {
			if token != "name" && token != "number" {
				token = `"` + token + `"`
			}
			ok = ok && c.scan(token)
		}
		if (ok && c.complete()) != want {
			t.Errorf("%q: %t", text, !want)
		}
	}
}

func TestAllShortExprs(t *testing.T) {
	exploreBehind(t, "expr", "", 4)
	for _, text := range []string{"name [ number", "name ( number", "name ( number ) (", "( name )", "& name (", "- !", "name < name", "name || name && name", "name == name + name *", "( ( name ("} {
		exploreBehind(t, "expr", text, 2)
	}
}

func TestAllShortPrograms(t *testing.T) {
	exploreBehind(t, "source", "", 6)
	for _, text := range []string{"func name ( ) {", "func name ( name , name", "func name ( ) { if name {", "func name ( ) { while name { }", "func name ( ) { if name { }", "func name ( ) { if name { } else", "func name ( ) { name [ name ]", "func name ( ) { name [ name", "func name ( ) { name = name", "func name ( ) { var name", "func name ( ) { return", "func name ( ) { print name", "func name ( ) { call name (", "func name ( ) { } global name [ number", "global name ; func name ( ) { } func"} {
		exploreBehind(t, "source", text, 3)
	}
}

func TestRandomTokens(t *testing.T) {
	r, random := readGrammar(), rand.New(rand.NewSource(5))
	all := r.tokens()
	for i := range 4000 {
		c := newChart(r, []string{"source", "expr"}[i%2])
		var tokens []string
		want := 0
		for size := random.Intn(60); len(tokens) < size; {
			next := all[random.Intn(len(all))]
			if c.scan(next) {
				tokens = append(tokens, next)
			} else if random.Intn(400) == 0 {
				tokens = append(tokens, next)
				want = len(tokens)
				break
			}
		}
		switch {
		case want > 0:
			tokens = append(tokens, all[random.Intn(len(all))])
		case !c.complete():
			want = len(tokens) + 1
		}
		c.agrees(t, tokens, want)
	}
}
