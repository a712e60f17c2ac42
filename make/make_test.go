package make_test

import (
	"reflect"
	"slices"
	"strings"
	"testing"

	"rewind/api"
	"rewind/check"
	"rewind/code"
	"rewind/make"
	"rewind/print"
	"rewind/syntax"
)

// right: a text's program, which must be right, and what is known of it.
func right(t *testing.T, text string) (api.Tree, check.Info) {
	t.Helper()
	p, at, e := syntax.Parse(text)
	if e != api.OK {
		t.Fatalf("Parse(%.2000q): %d, %d, want a program", text, at, e)
	}
	info, at, e := check.Check(p)
	if e != api.OK {
		t.Fatalf("Check of %.2000q: %d, %d, want a right program", text, at, e)
	}
	return p, info
}

// made: a text's code, in which all must be as the chapter says of any program's.
func made(t *testing.T, text string) code.Code {
	t.Helper()
	p, info := right(t, text)
	c, e := make.Make(p, info)
	if e != api.OK {
		t.Fatalf("P11.1: Make of %.2000q: %d, want code", text, e)
	}
	wantFormed(t, text, p, info, c)
	return c
}

// wantFormed: it is good; it has a procedure for each function; each statement has one mark, in its function's procedure, ahead of those that stand behind it or in it; the first and the last instructions are what they must be.
func wantFormed(t *testing.T, text string, p api.Tree, info check.Info, c code.Code) {
	t.Helper()
	if !code.Good(c) {
		t.Fatalf("P11.1: the code of %.2000q isn't good: %v", text, c)
	}
	if len(c.Procs) != len(p.Funcs) {
		t.Fatalf("P11.1: the code of %.2000q has %d procedures, want %d", text, len(c.Procs), len(p.Funcs))
	}
	for n, f := range p.Funcs {
		r := c.Procs[n]
		want := code.Proc{Name: f.Name, From: r.From, To: r.To, Params: len(f.Params), Slots: len(info.Slots[n]), Type: f.Type}
		if r != want {
			t.Errorf("P11.1: of %.2000q a procedure is %v, want %v", text, r, want)
		}
		var marks []int
		for _, x := range c.List[r.From:r.To] {
			if x.Op == code.Mark {
				marks = append(marks, x.Arg)
			}
		}
		if want := inOrder(p, f.Body); !slices.Equal(marks, want) {
			t.Errorf("P11.1: of %.2000q a procedure has marks of %d, want %d", text, marks, want)
		}
		if first := c.List[r.From]; len(f.Body) > 0 && first != (code.Instr{Op: code.Mark, Arg: f.Body[0]}) {
			t.Errorf("P11.1: of %.2000q a procedure begins with %v, want the mark of %d", text, first, f.Body[0])
		}
		wantLast(t, text, f.Type, c.List[r.From:r.To])
	}
}

// inOrder: the statements of a list, each ahead of those that stand in it.
func inOrder(p api.Tree, list []int) []int {
	var out []int
	for _, at := range list {
		out = append(out, at)
		out = append(out, inOrder(p, p.Stmts[at].Then)...)
		out = append(out, inOrder(p, p.Stmts[at].Else)...)
	}
	return out
}

func wantLast(t *testing.T, text string, kind int, list []code.Instr) {
	t.Helper()
	want := []code.Instr{{Op: code.Return}}
	if kind == api.Int {
		want = []code.Instr{{Op: code.Const}, {Op: code.Return, Arg: 1}}
	}
	if len(list) < len(want) || !slices.Equal(list[len(list)-len(want):], want) {
		t.Errorf("P11.1: of %.2000q a procedure is %v, want it to end with %v", text, list, want)
	}
}

// wantBody: the instructions of main, parted by "; ", but for the return behind its last statement. Of a statement without blocks they are no others than the chapter's words ask for.
func wantBody(t *testing.T, body, want string) {
	t.Helper()
	wantProcedure(t, "func main() { "+body+" }\nfunc f(x, y) int { }\nfunc g() { }\nfunc h(x) { }", 0, want, "return 0")
}

func wantProcedure(t *testing.T, text string, n int, want ...string) {
	t.Helper()
	lines := strings.SplitAfter(code.Print(made(t, text)), "\n")
	var got []string
	for _, s := range lines {
		if strings.HasPrefix(s, "proc ") {
			n--
		} else if n == -1 && s != "" {
			got = append(got, strings.TrimSuffix(s, "\n"))
		}
	}
	if s := strings.Join(want, "; "); strings.Join(got, "; ") != s {
		t.Errorf("P11.1: of %s\na procedure is\n%s, want\n%s", text, strings.Join(got, "; "), s)
	}
}

func TestTheExample(t *testing.T) {
	want := code.Code{Procs: []code.Proc{{Name: "main", To: 1, Type: api.Unit}}, List: []code.Instr{{Op: code.Return}}}
	if c := made(t, "func main() { }"); !reflect.DeepEqual(c, want) {
		t.Errorf("P11.1: the code of a main without statements: %v, want %v", c, want)
	}
}

func TestStatementsWithoutBlocks(t *testing.T) {
	wantBody(t, "var x = 7;", "mark 0; const 7; store 0")
	wantBody(t, "var x = 7; x = x;", "mark 0; const 7; store 0; mark 1; load 0; store 0")
	wantBody(t, "var a[64]; var b[1];", "mark 0; new 0 64; mark 1; new 1 1")
	wantBody(t, "var x = 1; var a[3]; a[x] = 2;", "mark 0; const 1; store 0; mark 1; new 1 3; mark 2; load 0; const 2; storeat 1")
	wantBody(t, "print 5; print true; print false; print 1 < 2;", "mark 0; const 5; print 1; mark 1; const 1; print 2; mark 2; const 0; print 2; mark 3; const 1; const 2; lt; print 2")
	wantBody(t, "f(1, 2); g(); h(3);", "mark 0; const 1; const 2; call 1; pop; mark 1; call 2; mark 2; const 3; call 3")
	wantBody(t, "return; return;", "mark 0; return 0; mark 1; return 0")
}

func TestExpressions(t *testing.T) {
	wantBody(t, "print read;", "mark 0; read; print 1")
	wantBody(t, "print 999999999999999999;", "mark 0; const 999999999999999999; print 1")
	wantBody(t, "var a[2]; print a[a[1]];", "mark 0; new 0 2; mark 1; const 1; loadat 0; loadat 0; print 1")
	wantBody(t, "print -read - -1; print !!true;", "mark 0; read; neg; const 1; neg; sub; print 1; mark 1; const 1; not; not; print 2")
	wantBody(t, "print 1 + 2 - 3 * 4 / 5 % 6;", "mark 0; const 1; const 2; add; const 3; const 4; mul; const 5; div; const 6; mod; sub; print 1")
	wantBody(t, "print 1 - (2 - 3);", "mark 0; const 1; const 2; const 3; sub; sub; print 1")
	for sign, word := range map[string]string{"<": "lt", "<=": "le", ">": "gt", ">=": "ge", "==": "eq", "!=": "ne"} {
		wantBody(t, "print 1 "+sign+" 2;", "mark 0; const 1; const 2; "+word+"; print 2")
	}
	wantBody(t, "print true == false; print true != false;", "mark 0; const 1; const 0; eq; print 2; mark 1; const 1; const 0; ne; print 2")
	wantBody(t, "print f(f(1, 2), read + 3);", "mark 0; const 1; const 2; call 1; read; const 3; add; call 1; print 1")
	wantBody(t, "print true && false;", "mark 0; const 1; and 4; const 0; print 2")
	wantBody(t, "print true || false && !true;", "mark 0; const 1; or 7; const 0; and 7; const 1; not; print 2")
}

func TestProcedures(t *testing.T) {
	const text = "func main() { f(1); main(); }\nfunc _9(a, b) int { var c[2]; return b; var d = a; }\nfunc f(x) { }\nfunc g() int { }"
	want := []code.Proc{{Name: "main", From: 0, To: 6, Type: 4}, {Name: "_9", From: 6, To: 16, Params: 2, Slots: 4, Type: 1}, {Name: "f", From: 16, To: 17, Params: 1, Slots: 1, Type: 4}, {Name: "g", From: 17, To: 19, Type: 1}}
	if c := made(t, text); !slices.Equal(c.Procs, want) {
		t.Errorf("P11.1: of %s\nthe procedures are %v, want %v", text, c.Procs, want)
	}
	wantProcedure(t, text, 0, "mark 0; const 1; call 2; mark 1; call 0", "return 0")
	wantProcedure(t, text, 1, "mark 2; new 2 2; mark 3; load 1; return 1; mark 4; load 0; store 3", "const 0", "return 1")
	wantProcedure(t, text, 2, "return 0")
	wantProcedure(t, text, 3, "const 0", "return 1")
}

// A slot is told by Check: of two of one name the innermost.
func TestSlotsOfTheSameName(t *testing.T) {
	p, info := right(t, "func main() { var x = 1; if true { var x = true; print x; x = false; } print x; x = 2; }")
	c, _ := make.Make(p, info)
	var slots []int
	for _, x := range c.List {
		if x.Op == code.Load || x.Op == code.Store {
			slots = append(slots, x.Arg)
		}
	}
	if want := []int{0, 1, 1, 1, 0, 0}; !slices.Equal(slots, want) {
		t.Errorf("P11.1: the slots are %d, want %d", slots, want)
	}
}

func TestHigh(t *testing.T) {
	for text, want := range map[string]int{
		"1": 1, "read": 1, "x": 1, "-x": 1, "-(x + 1)": 2, "a[x]": 1, "a[x + 1]": 2, "a[a[1 + (2 + 3)]]": 3,
		"1 + 2 * 3": 3, "(1 + 2) * 3": 2, "1 + 2 + 3 + 4": 2, "1 + (2 + (3 + 4))": 4, "1 + 2 * 3 - 4": 3, "(1 + (2 + 3)) * 4": 3, "1 * (2 + 3) + (4 + 5)": 3,
		"f(1, 2)": 2, "f(1 + 2 * 3, 1)": 3, "f(1, 1 + 2 * 3)": 4, "f(f(1, 2), f(1, 2))": 3, "one(1)": 1, "one(1 + 2)": 2, "none()": 1, "1 + none()": 2,
		"1 + f(1, 2 + f(3, 4))": 5,
	} {
		wantHigh(t, "print "+text+";", want)
	}
	for text, want := range map[string]int{
		"true": 1, "!b": 1, "!(1 < 2)": 2, "b && b": 1, "b || b": 1, "b && 1 < 2": 2, "1 < 2 && b": 2, "b || b && 1 + 2 * 3 < 4": 3, "b || 1 < 2 + 3 * 4 && b": 4,
		"b == (b && b)": 2, "b == (b || 1 < 2)": 3, "(b || 1 < 2) == b": 2, "1 < 2 || 1 < 2 + 3": 3, "1 < 2 + 3 || 1 < 2": 3,
	} {
		wantHigh(t, "if "+text+" { }", want)
	}
	wantHigh(t, "unit();", 1)
	wantHigh(t, "units(1, 2, 3);", 3)
	wantHigh(t, "units(1, 2, f(3, 4));", 4)
}

func wantHigh(t *testing.T, stmt string, want int) {
	t.Helper()
	p, _ := right(t, "func main() { var x = 1; var b = true; var a[3]; "+stmt+" }\nfunc f(p, q) int { }\nfunc one(p) int { }\nfunc none() int { }\nfunc unit() { }\nfunc units(p, q, r) { }")
	at := p.Stmts[p.Funcs[0].Body[3]].A
	if got := make.High(p, at); got != want || highByWords(p, at) != want {
		t.Errorf("P11.1: High of the expression of %s: %d, want %d", stmt, got, want)
	}
}

// The parts' places aren't the whole's: each has its own height.
func TestHighOfEachPlace(t *testing.T) {
	p, _ := right(t, "func main() { print 1 + 2 * (3 - f(4, 5)); }\nfunc f(p, q) int { }")
	var got []int
	for at := range p.Exprs {
		got = append(got, make.High(p, at))
	}
	if want := []int{1, 1, 1, 1, 1, 2, 3, 4, 5}; !slices.Equal(got, want) {
		t.Errorf("P11.1: the heights of the places are %d, want %d", got, want)
	}
}

func TestSpansPlayNoPart(t *testing.T) {
	for _, text := range ordinary {
		p, info := right(t, text)
		want, _ := make.Make(p, info)
		p = withoutSpans(p)
		if c, e := make.Make(p, info); e != api.OK || !reflect.DeepEqual(c, want) {
			t.Errorf("P11.1: of %s\nwithout spans: %v, %d, want %v", text, c, e, want)
		}
		if c := made(t, print.Print(p)); !reflect.DeepEqual(c, want) {
			t.Errorf("P11.1: of %s\nprinted: %v, want %v", text, c, want)
		}
	}
}

func withoutSpans(p api.Tree) api.Tree {
	out := api.Tree{Exprs: slices.Clone(p.Exprs), Stmts: slices.Clone(p.Stmts), Funcs: slices.Clone(p.Funcs)}
	for n := range out.Exprs {
		out.Exprs[n].Span = api.Span{}
	}
	for n := range out.Stmts {
		out.Stmts[n].Span = api.Span{From: 5 - n, To: -n}
	}
	for n := range out.Funcs {
		out.Funcs[n].Span = api.Span{}
	}
	return out
}
