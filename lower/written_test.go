package lower

import (
	"fmt"
	"strings"
	"testing"

	"warmpath/api"
	"warmpath/check"
	"warmpath/flow"
	"warmpath/syntax"
)

// resolved is the resolved program of a text.
func resolved(t *testing.T, text string) api.Source {
	t.Helper()
	p, line, e := syntax.Parse(text)
	if e != api.OK {
		t.Fatalf("%.300s: line %d, %d", text, line, e)
	}
	q, line, e := check.Resolve(p)
	if e != api.OK {
		t.Fatalf("%.300s: line %d, %d", text, line, e)
	}
	return q
}

// lowered is the control flow of a text, which has to be right.
func lowered(t *testing.T, text string) api.Program {
	t.Helper()
	p, e := Lower(resolved(t, text))
	if e != api.OK || flow.Check(p) != api.OK {
		t.Fatalf("%.300s: %d, and %d for %v", text, e, flow.Check(p), p)
	}
	return p
}

// registers are the names of registers.
func registers(l []int) string {
	var names []string
	for _, r := range l {
		names = append(names, fmt.Sprintf("r%d", r))
	}
	return strings.Join(names, ", ")
}

// written is an instruction as text, with all fields that its kind uses.
func written(i api.Instr) string {
	dst := fmt.Sprintf("r%d = ", i.Dst)
	switch i.Kind {
	case api.InstrConst:
		return dst + fmt.Sprint(i.Value)
	case api.InstrMove:
		return dst + fmt.Sprintf("r%d", i.A)
	case api.InstrUnary:
		return dst + fmt.Sprintf("%s r%d", []string{1: "-", 2: "!"}[i.Op], i.A)
	case api.InstrBinary:
		return dst + fmt.Sprintf("r%d %s r%d", i.A, []string{3: "+", "-", "*", "/", "%", "<", "<=", "==", "!="}[i.Op], i.B)
	case api.InstrLoad:
		return dst + fmt.Sprintf("g%d", i.Value)
	case api.InstrStore:
		return fmt.Sprintf("g%d = r%d", i.Value, i.A)
	case api.InstrElement:
		return dst + fmt.Sprintf("g%d[r%d]", i.Value, i.A)
	case api.InstrSet:
		return fmt.Sprintf("g%d[r%d] = r%d", i.Value, i.A, i.B)
	case api.InstrRead:
		return dst + "read"
	case api.InstrPrint:
		return fmt.Sprintf("print r%d", i.A)
	case api.InstrCall:
		return dst + fmt.Sprintf("f%d(%s)", i.Value, registers(i.Args))
	case api.InstrCallValue:
		return dst + fmt.Sprintf("r%d(%s)", i.A, registers(i.Args))
	case api.InstrFunc:
		return dst + fmt.Sprintf("&f%d", i.Value)
	}
	return fmt.Sprint("?", i)
}

// writtenEnd is an end as text, with all fields that its kind uses.
func writtenEnd(t api.Term) string {
	switch t.Kind {
	case api.TermJump:
		return fmt.Sprintf("to %d", t.To)
	case api.TermBranch:
		return fmt.Sprintf("r%d ? %d : %d", t.A, t.To, t.Else)
	case api.TermReturn:
		return fmt.Sprintf("return r%d", t.A)
	}
	return fmt.Sprint("?", t)
}

// writtenFunc is the blocks of a function as text, with " | " between them.
func writtenFunc(f api.Function) string {
	var blocks []string
	for _, b := range f.Blocks {
		var l []string
		for _, i := range b.Instrs {
			l = append(l, written(i))
		}
		blocks = append(blocks, strings.Join(append(l, writtenEnd(b.Term)), "; "))
	}
	return strings.Join(blocks, " | ")
}

// onlyUsed is an instruction without anything in the fields that its kind does not use.
func onlyUsed(i api.Instr) api.Instr {
	switch i.Kind {
	case api.InstrConst, api.InstrLoad, api.InstrFunc:
		return api.Instr{Kind: i.Kind, Dst: i.Dst, Value: i.Value}
	case api.InstrMove:
		return api.Instr{Kind: i.Kind, Dst: i.Dst, A: i.A}
	case api.InstrUnary:
		return api.Instr{Kind: i.Kind, Op: i.Op, Dst: i.Dst, A: i.A}
	case api.InstrBinary:
		return api.Instr{Kind: i.Kind, Op: i.Op, Dst: i.Dst, A: i.A, B: i.B}
	case api.InstrStore:
		return api.Instr{Kind: i.Kind, A: i.A, Value: i.Value}
	case api.InstrElement:
		return api.Instr{Kind: i.Kind, Dst: i.Dst, A: i.A, Value: i.Value}
	case api.InstrSet:
		return api.Instr{Kind: i.Kind, A: i.A, B: i.B, Value: i.Value}
	case api.InstrRead:
		return api.Instr{Kind: i.Kind, Dst: i.Dst}
	case api.InstrPrint:
		return api.Instr{Kind: i.Kind, A: i.A}
	case api.InstrCall:
		return api.Instr{Kind: i.Kind, Dst: i.Dst, Value: i.Value, Args: i.Args}
	case api.InstrCallValue:
		return api.Instr{Kind: i.Kind, Dst: i.Dst, A: i.A, Args: i.Args}
	}
	return api.Instr{}
}

// onlyUsedEnd is an end without anything in the fields that its kind does not use.
func onlyUsedEnd(t api.Term) api.Term {
	switch t.Kind {
	case api.TermJump:
		return api.Term{Kind: t.Kind, To: t.To}
	case api.TermBranch:
		return t
	case api.TermReturn:
		return api.Term{Kind: t.Kind, A: t.A}
	}
	return api.Term{}
}

// isClean checks that fields that are not used are zero, and that each block is its own origin.
func isClean(t *testing.T, p api.Program) {
	t.Helper()
	for number, f := range p.Funcs {
		for i, b := range f.Blocks {
			for _, instr := range b.Instrs {
				if fmt.Sprint(instr) != fmt.Sprint(onlyUsed(instr)) {
					t.Fatalf("%v in %v", instr, f)
				}
			}
			if b.Term != onlyUsedEnd(b.Term) || b.Origin != (api.Spot{Func: number, Block: i}) {
				t.Fatalf("the block %d of %v", i, f)
			}
		}
	}
}
