package dominate

import (
	"fmt"
	"testing"

	"warmpath/api"
	"warmpath/check"
	"warmpath/flow"
	"warmpath/lower"
	"warmpath/syntax"
)

// lowered is the first function of a source.
func lowered(t *testing.T, text string) api.Function {
	t.Helper()
	p, line, e := syntax.Parse(text)
	if e == api.OK {
		p, line, e = check.Resolve(p)
	}
	if e != api.OK {
		t.Fatalf("%s: error %d in line %d", text, e, line)
	}
	q, e := lower.Lower(p)
	if e != api.OK {
		t.Fatalf("%s: error %d", text, e)
	}
	return q.Funcs[0]
}

// TestKnownSources has the loops of while statements.
func TestKnownSources(t *testing.T) {
	for _, c := range []struct{ text, order, idom, loops, depth string }{
		{"func main() { }", "[0]", "[-1]", "", "[0]"},
		{"func main() { while read { print 1; } }", "[0 1 3 2]", "[-1 0 1 1]", "1:[1 2] ", "[0 1 1 0]"},
		{"func main() { while read { } while read { } }", "[0 1 3 4 6 5 2]", "[-1 0 1 1 3 4 4]", "1:[1 2] 4:[4 5] ", "[0 1 1 0 1 1 0]"},
		{"func main() { while read { while read { } } }", "[0 1 6 2 3 5 4]", "[-1 0 1 2 3 3 1]", "1:[1 2 3 4 5] 3:[3 4] ", "[0 1 1 2 2 1 0]"},
		{"func main() { while read { return 1; } }", "[0 1 3 2]", "[-1 0 1 1]", "", "[0 0 0 0]"},
		{"func main() { while 1 { if read { return 1; } } }", "[0 1 5 2 4 3]", "[-1 0 1 2 2 1]", "1:[1 2 4] ", "[0 1 1 0 1 0]"},
		{"func main() { if read { print 1; } return 2; }", "[0 1 2]", "[-1 0 0]", "", "[0 0 0]"},
		// The condition has the blocks of && within the loop.
		{"func main() { while read && read { } }", "[0 1 2 4 3 5 7 6]", "[-1 0 1 2 1 1 5 5]", "1:[1 2 3 4 5 6] ", "[0 1 1 1 1 1 1 0]"},
	} {
		f := lowered(t, c.text)
		for _, x := range [][2]string{{fmt.Sprint(Order(f)), c.order}, {fmt.Sprint(Idom(f)), c.idom}, {loops(f), c.loops}, {fmt.Sprint(Depth(f)), c.depth}} {
			if x[0] != x[1] {
				t.Errorf("%s: %s, not %s", c.text, x[0], x[1])
			}
		}
		compare(t, f)
		compareDominates(t, f)
		if !Reducible(f) {
			t.Errorf("%s: not reducible", c.text)
		}
	}
}

// stmts is the text of statements, with others within them up to a depth.
func (m maker) stmts(depth int) (text string) {
	for range m.Intn(4) {
		kind := m.Intn(8)
		if depth == 0 {
			kind = 5 + m.Intn(3)
		}
		switch kind {
		case 0, 1, 2:
			text += "while " + m.expr(1) + " { " + m.stmts(depth-1) + "} "
		case 3, 4:
			text += "if " + m.expr(1) + " { " + m.stmts(depth-1) + "} else { " + m.stmts(depth-1) + "} "
		case 5:
			text += "return " + m.expr(1) + "; "
		default:
			text += "print " + m.expr(1) + "; "
		}
	}
	return text
}

func (m maker) expr(depth int) string {
	if depth == 0 || m.Intn(3) == 0 {
		return "read"
	}
	return "( " + m.expr(depth-1) + []string{" && ", " || ", " < "}[m.Intn(3)] + m.expr(depth-1) + " )"
}

// TestRandomSources has the consequence that programs of lower are reducible.
func TestRandomSources(t *testing.T) {
	m := newMaker(6)
	most := 0
	for range 1000 {
		text := "func main() { " + m.stmts(3) + "}"
		f := lowered(t, text)
		if !Reducible(f) {
			t.Fatalf("%s: not reducible", text)
		}
		for _, e := range Backs(f) {
			if end := f.Blocks[e.To].Term; end.Kind == api.TermReturn || len(flow.Preds(f)[e.To]) < 2 {
				t.Fatalf("%s: the head %d", text, e.To)
			}
		}
		for _, d := range Depth(f) {
			most = max(most, d)
		}
		if len(f.Blocks) <= 40 {
			compare(t, f)
		}
		consequences(t, f)
	}
	if most < 3 {
		t.Errorf("only %d loops around a block", most)
	}
}
