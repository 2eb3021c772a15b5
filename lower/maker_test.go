package lower

import (
	"fmt"
	"math/rand"
	"strings"

	"warmpath/api"
)

// maker writes random programs, of which many return or trap soon, and which are spread over many lines.
type maker struct {
	*rand.Rand
	locals   []string // which can be used here
	declared int
}

func newMaker(seed int64) *maker { return &maker{Rand: rand.New(rand.NewSource(seed))} }

func (m *maker) one(texts ...string) string { return texts[m.Intn(len(texts))] }

// heads are those of the functions, whose numbers of parameters are 0, 0, 1, 2 and 6.
var heads = []string{"main ( )", "f0 ( )", "f1 ( p )", "f2 ( p , q )", "f6 ( p , q , x , y , z , w )"}

func (m *maker) args(n, depth int) string {
	var l []string
	for range n {
		l = append(l, m.expr(depth))
	}
	return " ( " + strings.Join(l, " , ") + " ) "
}

// variable is the name of a local or a scalar.
func (m *maker) variable() string {
	if len(m.locals) > 0 && m.Intn(3) > 0 {
		return m.one(m.locals...)
	}
	return m.one("g", "h")
}

func (m *maker) leaf() string {
	return m.one("0", "1", "2", "3", "9223372036854775807", "read", "read", "& main", "& f0", "& f1", "& f2", "& f6", m.variable(), m.variable(), m.variable(), m.variable(), m.variable())
}

// element is the text of an element, whose index is seldom out of range.
func (m *maker) element(depth int) string {
	if m.Intn(8) == 0 {
		return m.one("a", "b", "c") + " [ " + m.expr(depth) + " ] "
	}
	return m.one("a [ ", "a [ 2 - ", "b [ ", "c [ 0 * ") + m.one("0", "1", "( 0 < "+m.leaf()+" )", "! "+m.leaf()) + " ] "
}

// call is the text of a call, which seldom traps.
func (m *maker) call(depth int) string {
	f := m.Intn(4)
	args := []int{0, 1, 2, 6}[f]
	switch m.Intn(20) {
	case 0:
		return "( " + m.expr(depth) + " ) " + m.args(m.Intn(7), depth)
	case 1, 2, 3:
		return fmt.Sprintf("& f%d", args) + m.args(args, depth)
	case 4, 5:
		return fmt.Sprint(f+1) + m.args(args, depth)
	}
	return fmt.Sprintf("f%d", args) + m.args(args, depth)
}

func (m *maker) expr(depth int) string {
	if depth <= 0 {
		return m.leaf()
	}
	depth--
	switch m.Intn(10) {
	case 0:
		return m.one("- ", "! ") + "( " + m.expr(depth) + " )"
	case 1, 2:
		return "( " + m.expr(depth) + " ) " + m.one("+", "-", "*", "<", "<=", "==", "!=") + " ( " + m.expr(depth) + " )"
	case 3:
		return "( " + m.expr(depth) + " ) " + m.one("/", "%") + " " + m.one("2", "3", "( - 1 )", "( "+m.expr(depth)+" )")
	case 4, 5, 6:
		return "( " + m.expr(depth) + " ) " + m.one("&&", "||") + " ( " + m.expr(depth) + " )"
	case 7:
		return m.element(depth)
	case 8:
		return m.call(depth)
	}
	return m.leaf()
}

func (m *maker) stmts(depth int) (text string) {
	for range m.Intn(4) {
		text += m.stmt(depth)
	}
	return text
}

func (m *maker) block(depth int) string { return "{ " + m.stmts(depth) + "} " }

// declaration is the text of a variable with a name of its own.
func (m *maker) declaration(value string) (name, text string) {
	name = fmt.Sprintf("v%d", m.declared)
	m.declared++
	m.locals = append(m.locals, name)
	return name, "var " + name + " = " + value + " ; "
}

func (m *maker) stmt(depth int) string {
	value := m.expr(m.Intn(5))
	switch m.Intn(14) {
	case 0, 1:
		if m.declared < api.MaxLocals-6 {
			_, text := m.declaration(value)
			return text
		}
	case 2:
		return m.element(1) + "= " + value + " ; "
	case 3, 4, 5, 6:
		if depth > 0 {
			return m.choice(depth, value)
		}
	case 7, 8:
		if depth > 0 {
			return m.loop(depth, value)
		}
	case 9:
		return "return " + value + " ; "
	case 10:
		return "call " + value + " ; "
	case 11, 12:
		return "print " + value + " ; "
	}
	return m.variable() + " = " + value + " ; "
}

func (m *maker) choice(depth int, value string) string {
	text := "if " + value + " " + m.block(depth-1)
	if m.Intn(3) > 0 {
		text += "else " + m.block(depth-1)
	}
	return text
}

// loop is the text of a loop, which mostly ends.
func (m *maker) loop(depth int, value string) string {
	if m.Intn(8) == 0 || m.declared >= api.MaxLocals-6 {
		return "while " + value + " " + m.block(depth-1)
	}
	name, text := m.declaration(m.one("0", "1", value))
	return fmt.Sprintf("%s while %s < %d && ( %s || 1 ) { %s = %s + 1 ; %s} ", text, name, m.Intn(5), value, name, name, m.stmts(depth-1))
}

// source is the text of a program.
func (m *maker) source() string {
	text := "global g ; global a [ 3 ] ; global b [ 2 ] ; global c [ 1 ] ; global h ; "
	for i, head := range heads {
		params := []int{0, 0, 1, 2, 6}[i]
		m.locals, m.declared = []string{"p", "q", "x", "y", "z", "w"}[:params:params], 0
		text += "func " + head + " " + m.block(4)
	}
	return m.spread(text)
}

// spread ends lines at some of the spaces of a text.
func (m *maker) spread(text string) string {
	chance := []int{1, 3, 20}[m.Intn(3)]
	words := strings.Fields(text)
	for i := range words {
		if m.Intn(chance) == 0 {
			words[i] += "\n"
		}
	}
	return strings.Join(words, " ")
}
