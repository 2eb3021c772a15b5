package token

import (
	"math"
	"math/big"
	"math/rand"
	"regexp"
	"slices"
	"strings"
	"testing"

	"warmpath/api"
)

// allWords and allSigns are those that the document lists.
var (
	allWords = strings.Fields("func global var if else while return print call read")
	allSigns = strings.Fields("( ) { } [ ] , ; = + - * / % < <= == != && || ! &")
)

func name(line int, text string) api.Token {
	return api.Token{Kind: api.TokenName, Line: line, Text: text}
}

func word(line int, text string) api.Token {
	return api.Token{Kind: api.TokenWord, Line: line, Text: text}
}

func sign(line int, text string) api.Token {
	return api.Token{Kind: api.TokenSign, Line: line, Text: text}
}

func value(line, n int, text string) api.Token {
	return api.Token{Kind: api.TokenNumber, Line: line, Value: n, Text: text}
}

func end(line int) api.Token { return api.Token{Kind: api.TokenEnd, Line: line} }

// gives checks that a text has these tokens.
func gives(t *testing.T, text string, want ...api.Token) {
	t.Helper()
	if l, line, e := Scan(text); !slices.Equal(l, want) || line != 0 || e != api.OK {
		t.Errorf("%q: %v, %d, %d, not %v", text, l, line, e, want)
	}
}

// refused checks that a text has no tokens, and where and why.
func refused(t *testing.T, text string, want int, why api.Errno) {
	t.Helper()
	if l, line, e := Scan(text); len(l) != 0 || line != want || e != why {
		t.Errorf("%.80q: %d tokens, %d, %d, not %d, %d", text, len(l), line, e, want, why)
	}
}

// divided is the texts of the tokens of a text, with spaces between them, or "error".
func divided(text string) string {
	l, _, e := Scan(text)
	if e != api.OK {
		return "error"
	}
	var parts []string
	for _, t := range l[:len(l)-1] {
		parts = append(parts, t.Text)
	}
	return strings.Join(parts, " ")
}

func TestScanOfProgram(t *testing.T) {
	gives(t, "global a[10];\n\nfunc f(x_1) { # twice\n\tif x_1 <= 0 { return -1; }\n\treturn &f != 2*x_1;\n}\n",
		word(1, "global"), name(1, "a"), sign(1, "["), value(1, 10, "10"), sign(1, "]"), sign(1, ";"),
		word(3, "func"), name(3, "f"), sign(3, "("), name(3, "x_1"), sign(3, ")"), sign(3, "{"),
		word(4, "if"), name(4, "x_1"), sign(4, "<="), value(4, 0, "0"), sign(4, "{"),
		word(4, "return"), sign(4, "-"), value(4, 1, "1"), sign(4, ";"), sign(4, "}"),
		word(5, "return"), sign(5, "&"), name(5, "f"), sign(5, "!="), value(5, 2, "2"), sign(5, "*"), name(5, "x_1"), sign(5, ";"),
		sign(6, "}"), end(7))
}

func TestScanOfNothing(t *testing.T) {
	for text, line := range map[string]int{"": 1, " ": 1, "\t \t": 1, "\n": 2, "\n\n\n": 4, "#": 1, "# no token": 1, "#\n": 2, " # a\n\t# b": 2, "##\n##\n": 3} {
		gives(t, text, end(line))
	}
}

func TestScanOfEachWordAndSign(t *testing.T) {
	for _, s := range allWords {
		gives(t, s, word(1, s), end(1))
	}
	for _, s := range allSigns {
		gives(t, s, sign(1, s), end(1))
	}
}

func TestScanOfNames(t *testing.T) {
	for _, s := range []string{
		"a", "z", "A", "Z", "m", "M", "a_", "a__", "a9", "z0_9Z", "main", "aZ09_",
		"Func", "IF", "funcs", "func_", "func1", "iff", "i", "fi", "reads", "rea", "elseif", "callread",
		"true", "for", "break", strings.Repeat("a", 32), "Z" + strings.Repeat("_", 31), "b" + strings.Repeat("9", 31),
	} {
		gives(t, s, name(1, s), end(1))
		gives(t, s+"("+s+" "+s, name(1, s), sign(1, "("), name(1, s), name(1, s), end(1))
	}
}

func TestScanRefusesLongNames(t *testing.T) {
	for _, s := range []string{strings.Repeat("a", 33), "a" + strings.Repeat("_", 32), "func" + strings.Repeat("1", 29), strings.Repeat("Z", 200), strings.Repeat("x", api.MaxSource)} {
		refused(t, s, 1, api.ErrToken)
	}
	refused(t, "a\n"+strings.Repeat("b", 33)+"\nc", 2, api.ErrToken)
}

func TestScanOfNumbers(t *testing.T) {
	for s, n := range map[string]int{
		"0": 0, "1": 1, "9": 9, "10": 10, "100": 100, "1234567890": 1234567890, "65536": 65536, "4294967296": 1 << 32,
		"999999999999999999":  999999999999999999,
		"9223372036854775806": math.MaxInt64 - 1, "9223372036854775807": math.MaxInt64,
	} {
		gives(t, s, value(1, n, s), end(1))
		gives(t, "-"+s+"+"+s, sign(1, "-"), value(1, n, s), sign(1, "+"), value(1, n, s), end(1))
	}
}

func TestScanRefusesNumbers(t *testing.T) {
	for _, s := range []string{
		"00", "01", "007", "000", "0123456789", "00000000000000000000001",
		"9223372036854775808", "9223372036854775810", "9300000000000000000", "10000000000000000000", "18446744073709551615", "18446744073709551616", "18446744073709551617",
		"99999999999999999999", "340282366920938463463374607431768211456", strings.Repeat("9", api.MaxSource), strings.Repeat("0", api.MaxSource),
		"1a", "0x10", "0b1", "0o7", "1_000", "1_", "0_", "9Z", "1e9", "12func", "1if",
	} {
		refused(t, s, 1, api.ErrToken)
		if len(s) < 100 {
			refused(t, "a =\n"+s+";\n", 2, api.ErrToken)
		}
	}
}

func TestScanTakesLongestTokens(t *testing.T) {
	for text, want := range map[string]string{
		"x<=10": "x <= 10", "x<10": "x < 10", "x==-1": "x == - 1", "a=!b": "a = ! b", "!a!=b": "! a != b", "&f": "& f", "&f&&&g": "& f && & g",
		"<==": "<= =", "===": "== =", "====": "== ==", "!==": "!= =", "!!=": "! !=", "=!=": "= !=", "=<": "= <", "=<=": "= <=", "<<=": "< <=", "<!=": "< !=",
		"&&&": "&& &", "&&&&": "&& &&", "||||": "|| ||", "||=": "|| =", "& &": "& &", "< =": "< =", "! =": "! =", "= =": "= =",
		"--": "- -", "++1": "+ + 1", "**": "* *", "//": "/ /", "%%": "% %", "+=": "+ =", "-1": "- 1", "a-1": "a - 1", "((": "( (", ",,": ", ,", ";;": "; ;", "[]": "[ ]", "{}": "{ }",
		"iff": "iff", "if(": "if (", "if#\nf": "if f", "var1": "var1", "var 1": "var 1", "ab": "ab", "a_b": "a_b", "a#b\nc": "a c", "a\tb": "a b",
		"12": "12", "1 2": "1 2", "1#\n2": "1 2", "0+0": "0 + 0", "0 0": "0 0", "a1": "a1", "a 1": "a 1", "a007": "a007", "a 0": "a 0", "1 a": "1 a", "1(a": "1 ( a",
		"|": "error", "|||": "error", "| |": "error", "&|": "error", "a|b": "error", "|=": "error", "a 00": "error", "a _": "error",
	} {
		if got := divided(text); got != want {
			t.Errorf("%q: %q, not %q", text, got, want)
		}
	}
}

func TestScanOfTwoSigns(t *testing.T) {
	for _, a := range allSigns {
		for _, b := range allSigns {
			gives(t, a+" "+b, sign(1, a), sign(1, b), end(1))
			switch both := a + b; {
			case slices.Contains(allSigns, both):
				gives(t, both, sign(1, both), end(1))
			case len(both) == 2 || !slices.Contains(allSigns, both[:2]) || len(a) == 2:
				gives(t, both, sign(1, a), sign(1, b), end(1))
			default: // the first sign of b belongs to a
				gives(t, both, sign(1, both[:2]), sign(1, both[2:]), end(1))
			}
		}
	}
}

func TestScanCountsLines(t *testing.T) {
	gives(t, "a\nb\n\n c # d\n# e\n\te", name(1, "a"), name(2, "b"), name(4, "c"), name(6, "e"), end(6))
	gives(t, "\n\na\n\n", name(3, "a"), end(5))
	gives(t, "a#\n#\n\n#", name(1, "a"), end(4))
	gives(t, "a # b # c\n+", name(1, "a"), sign(2, "+"), end(2))
	text := strings.Repeat("a;\n", 20000)
	l, line, e := Scan(text)
	if len(l) != 40001 || line != 0 || e != api.OK {
		t.Fatalf("20000 lines: %d tokens, %d, %d", len(l), line, e)
	}
	for i, x := range l {
		if x.Line != i/2+1 {
			t.Fatalf("the token %d is in the line %d", i, x.Line)
		}
	}
}

func TestScanOfEachByte(t *testing.T) {
	const blanks, one = " \t\n", "(){}[],;=+-*/%<!&0123456789abcdefghijklmnopqrstuvwxyzABCDEFGHIJKLMNOPQRSTUVWXYZ"
	for b := range 256 {
		s := string([]byte{byte(b)})
		switch {
		case strings.Contains(blanks, s) || s == "#":
			gives(t, s, end(1+strings.Count(s, "\n")))
		case strings.Contains(one, s):
			if l, _, e := Scan(s); len(l) != 2 || l[0].Text != s || e != api.OK {
				t.Errorf("%q: %v, %d", s, l, e)
			}
		default:
			refused(t, s, 1, api.ErrToken)
			refused(t, "if\n "+s, 2, api.ErrToken)
			refused(t, "( "+s+" )", 1, api.ErrToken)
			if s != "_" {
				refused(t, "a"+s+"\n", 1, api.ErrToken)
			}
		}
		if s != "\n" {
			gives(t, "a #"+s+"0x|\nb", name(1, "a"), name(2, "b"), end(2))
		}
	}
}

func TestScanRefusesFirstWrongPlace(t *testing.T) {
	long := strings.Repeat("n", 33)
	for text, line := range map[string]int{
		"_": 1, "_a": 1, "a _": 1, "\"a\"": 1, "a.b": 1, "a > b": 1, "'": 1, "a\r\n": 1, "a\v": 1, "\u00a0": 1, "\u00e9": 1, "a\u00e9": 1, "\uff11": 1, "1\u0663": 1, "\ufeffa": 1, "a\x00": 1, "\xff": 1, "\u2028": 1, "@": 1, "$a": 1, "~1": 1, "a^b": 1, "a?b:c": 1, "\\\n": 1, "`": 1,
		"a\n|": 2, "\n\n>": 3, "# >\n>": 2, "a # |\n\n# 007\n 007": 4,
		"00\n|\n" + long: 1, "|\n00\n" + long: 1, long + "\n|\n00": 1, "a\n1a\n|": 2, "\n" + long + "\n1a": 2, "a\n\n9223372036854775808\n|": 3,
		"func f() {\n\tvar x = 1;\n\tx = x > 2;\n}\n|": 3,
	} {
		refused(t, text, line, api.ErrToken)
	}
}

func TestScanLimit(t *testing.T) {
	gives(t, strings.Repeat(" ", api.MaxSource), end(1))
	gives(t, strings.Repeat("\n", api.MaxSource), end(api.MaxSource+1))
	gives(t, "#"+strings.Repeat("|", api.MaxSource-1), end(1))
	gives(t, strings.Repeat(" ", api.MaxSource-1)+"a", name(1, "a"), end(1))
	if l, line, e := Scan(strings.Repeat("(", api.MaxSource)); len(l) != api.MaxSource+1 || line != 0 || e != api.OK {
		t.Errorf("a text of the greatest size: %d tokens, %d, %d", len(l), line, e)
	}
	for _, s := range []string{" ", "\n", "(", "a", "|", "0", "#"} {
		refused(t, strings.Repeat(s, api.MaxSource+1), 0, api.ErrLimit)
		refused(t, "\n|\n"+strings.Repeat(s, 3*api.MaxSource), 0, api.ErrLimit)
	}
	refused(t, strings.Repeat("\n", api.MaxSource-1)+"|", api.MaxSource, api.ErrToken)
}

// The tokens of the document, and what lies between them, as regular expressions.
var (
	between = regexp.MustCompile(`^(?:[ \t\n]|#[^\n]*)*`)
	piece   = regexp.MustCompile(`^(?:[A-Za-z][A-Za-z0-9_]*|[0-9]+|<=|==|!=|&&|\|\||[(){}\[\],;=+*/%<!&-])`)
	behind  = regexp.MustCompile(`^[A-Za-z_]`)
)

// described is Scan as the promise describes it, by regular expressions and with numbers of any size.
func described(s string) ([]api.Token, int, api.Errno) {
	var l []api.Token
	for at := 0; ; {
		at += len(between.FindString(s[at:]))
		line := 1 + strings.Count(s[:at], "\n")
		if at == len(s) {
			return append(l, end(line)), 0, api.OK
		}
		text := piece.FindString(s[at:])
		at += len(text)
		switch {
		case text == "":
			return nil, line, api.ErrToken
		case slices.Contains(allSigns, text):
			l = append(l, sign(line, text))
		case slices.Contains(allWords, text):
			l = append(l, word(line, text))
		case text[0] <= '9':
			n, _ := new(big.Int).SetString(text, 10)
			if n.String() != text || !n.IsInt64() || behind.MatchString(s[at:]) {
				return nil, line, api.ErrToken
			}
			l = append(l, value(line, int(n.Int64()), text))
		case len(text) > 32:
			return nil, line, api.ErrToken
		default:
			l = append(l, name(line, text))
		}
	}
}

// random is a text of some of the parts, one behind the other.
func random(r *rand.Rand, parts []string) string {
	var s strings.Builder
	for range r.Intn(40) {
		s.WriteString(parts[r.Intn(len(parts))])
	}
	return s.String()
}

// texts are random texts: of tokens with something between them, of tokens without, and of any bytes.
func texts() []string {
	r := rand.New(rand.NewSource(1))
	tokens := slices.Concat(allWords, allSigns, []string{"a", "Zx_9", "main", "0", "1", "10", "9223372036854775807", strings.Repeat("b", 32)})
	gaps := []string{" ", "  ", "\t", "\n", "# c\n", "#\n#|\n", " \n\t"}
	spaced := slices.Clone(gaps)
	for _, x := range tokens {
		spaced = append(spaced, x+gaps[r.Intn(len(gaps))], x+" ")
	}
	tight := slices.Concat(tokens, gaps, []string{"_", "7", "00", "#", "9223372036854775808"})
	l := []string{"", " ", "\n"}
	for range 3000 {
		b := make([]byte, r.Intn(12))
		r.Read(b)
		l = append(l, random(r, spaced), random(r, tight), random(r, strings.Split("=<!&|a0 \n#_1(", "")), string(b))
	}
	return l
}

func TestScanAsDescribed(t *testing.T) {
	right := 0
	for _, text := range texts() {
		l, line, e := Scan(text)
		want, at, why := described(text)
		if !slices.Equal(l, want) || line != at || e != why {
			t.Errorf("%q: %v, %d, %d, not %v, %d, %d", text, l, line, e, want, at, why)
		}
		if e == api.OK && len(l) > 5 {
			right++
		}
	}
	if right < 2000 {
		t.Errorf("only %d texts have tokens", right)
	}
}

// withoutLines is a copy of tokens with the line 0.
func withoutLines(l []api.Token) []api.Token {
	c := slices.Clone(l)
	for i := range c {
		c[i].Line = 0
	}
	return c
}

func TestScanUndoesJoin(t *testing.T) {
	for _, text := range texts() {
		l, _, e := Scan(text)
		if e != api.OK {
			continue
		}
		again, line, e := Scan(Join(l))
		if !slices.Equal(withoutLines(again), withoutLines(l)) || line != 0 || e != api.OK {
			t.Errorf("%q: %v, %d, %d, not %v", text, again, line, e, l)
		}
		if Join(again) != Join(l) {
			t.Errorf("%q: %q, and then %q", text, Join(l), Join(again))
		}
	}
}

func TestGapsChangeLinesAlone(t *testing.T) {
	r := rand.New(rand.NewSource(2))
	gaps := []string{" ", "\t", "\n", "#\n", "# if | 007 \xff\n\n"}
	for _, text := range texts() {
		l, _, e := Scan(text)
		if e != api.OK {
			continue
		}
		var wide strings.Builder
		line := 1
		var want []api.Token
		for _, x := range l {
			gap := gaps[r.Intn(len(gaps))]
			line += strings.Count(gap, "\n")
			wide.WriteString(gap + x.Text)
			x.Line = line
			want = append(want, x)
		}
		gives(t, wide.String(), want...)
	}
}

func TestWord(t *testing.T) {
	for _, s := range allWords {
		if !Word(s) {
			t.Errorf("%q is no word", s)
		}
		for _, other := range []string{strings.ToUpper(s), strings.ToUpper(s[:1]) + s[1:], s + s, s + " ", " " + s, s + "\n", s + "1", s[1:], s[:len(s)-1], s + "\x00"} {
			if Word(other) {
				t.Errorf("%q is a word", other)
			}
		}
	}
	for _, s := range slices.Concat(allSigns, []string{"", "a", "main", "0", "for", "true", "end", "\xff", "func global"}) {
		if Word(s) {
			t.Errorf("%q is a word", s)
		}
	}
}

func TestSign(t *testing.T) {
	for a := range 256 {
		one := string([]byte{byte(a)})
		if got, want := Sign(one), slices.Contains(allSigns, one); got != want {
			t.Errorf("%q: %v", one, got)
		}
		for b := range 256 {
			two := one + string([]byte{byte(b)})
			if got, want := Sign(two), slices.Contains(allSigns, two); got != want {
				t.Errorf("%q: %v", two, got)
			}
		}
	}
	for _, s := range slices.Concat(allWords, []string{"", "a", "===", "<==", "&&&", "|||", "( ", " (", "()", "0"}) {
		if Sign(s) {
			t.Errorf("%q is a sign", s)
		}
	}
}

func TestJoin(t *testing.T) {
	for _, x := range []struct {
		l    []api.Token
		want string
	}{
		{nil, ""},
		{[]api.Token{}, ""},
		{[]api.Token{end(1)}, ""},
		{[]api.Token{end(1), end(2)}, ""},
		{[]api.Token{name(1, "a")}, "a"},
		{[]api.Token{name(1, "x"), sign(1, "<="), value(2, 10, "10"), end(3)}, "x <= 10"},
		{[]api.Token{end(1), word(1, "if"), end(1), sign(1, "("), end(1)}, "if ("},
		{[]api.Token{{Kind: api.TokenEnd, Text: "end"}, name(1, "b"), {Kind: api.TokenEnd, Text: "end"}}, "b"},
		{[]api.Token{{Kind: -1, Text: "a"}, {Kind: 99, Text: "b c"}, {Kind: api.TokenName}, {Kind: math.MaxInt, Text: "\xff"}}, "a b c  \xff"},
		{[]api.Token{value(1, 7, "007"), value(1, -1, "1")}, "007 1"},
		{[]api.Token{{Kind: api.TokenName}}, ""},
		{[]api.Token{{Kind: api.TokenName}, {Kind: api.TokenName}}, " "},
	} {
		before := slices.Clone(x.l)
		if got := Join(x.l); got != x.want {
			t.Errorf("%v: %q, not %q", x.l, got, x.want)
		}
		if !slices.Equal(x.l, before) {
			t.Errorf("%v is now %v", before, x.l)
		}
	}
}

func TestJoinOfManyTokens(t *testing.T) {
	l, _, e := Scan(strings.Repeat("(", api.MaxSource))
	if e != api.OK {
		t.Fatal(e)
	}
	if got, want := Join(l), strings.TrimSuffix(strings.Repeat("( ", api.MaxSource), " "); got != want {
		t.Errorf("%d bytes, not %d", len(got), len(want))
	}
}
