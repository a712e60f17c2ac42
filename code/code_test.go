package code_test

import (
	"fmt"
	"math"
	"reflect"
	"slices"
	"strconv"
	"strings"
	"testing"

	"rewind/api"
	"rewind/code"
)

// parsed: a text's code, which must be good.
func parsed(t *testing.T, text string) code.Code {
	t.Helper()
	c, n, e := code.Parse(text)
	if e != api.OK || n != 0 {
		t.Fatalf("P10.1: Parse(%.2000q): line %d, %d, want code", text, n, e)
	}
	return c
}

// lines: a text of these lines.
func lines(l ...string) string { return strings.Join(l, "\n") + "\n" }

// inMain: code of one procedure, with two slots, from lines parted by "; ".
func inMain(body string) string {
	return lines(append([]string{"proc main 0 2 4"}, strings.Split(body, "; ")...)...)
}

func wantHeights(t *testing.T, text, want string) {
	t.Helper()
	c := parsed(t, text)
	l, good := code.Heights(c)
	if got := strings.Trim(fmt.Sprint(l), "[]"); !good || got != want {
		t.Errorf("P10.1: Heights of %q: %s, %v, want %s", text, got, good, want)
	}
	if !code.Good(c) {
		t.Errorf("P10.1: %q isn't good", text)
	}
}

// wantBad: each line is right, but the code isn't good.
func wantBad(t *testing.T, text string) {
	t.Helper()
	wantFault(t, text, strings.Count(text, "\n")+1)
}

func wantFault(t *testing.T, text string, line int) {
	t.Helper()
	c, n, e := code.Parse(text)
	if n != line || e != api.ErrParse {
		t.Errorf("P10.1: Parse(%.2000q): line %d, %d, want %d, %d", text, n, e, line, api.ErrParse)
	}
	if len(c.Procs) > 0 || len(c.List) > 0 {
		t.Errorf("P7: Parse(%.2000q): code beside an error: %v", text, c)
	}
}

// wantNone: code that isn't good has no heights and no text.
func wantNone(t *testing.T, c code.Code) {
	t.Helper()
	if code.Good(c) {
		t.Errorf("P10.1: %v is good", c)
	}
	if l, good := code.Heights(c); len(l) > 0 || good {
		t.Errorf("P10.1: %v has the heights %d, %v", c, l, good)
	}
	if s := code.Print(c); s != "" {
		t.Errorf("P10.1: %v has the text %q", c, s)
	}
}

func TestOpsAreNumbered(t *testing.T) {
	got := []int{code.Mark, code.Const, code.Load, code.Store, code.LoadAt, code.StoreAt, code.New, code.Read, code.Neg, code.Not,
		code.Add, code.Sub, code.Mul, code.Div, code.Mod, code.Lt, code.Le, code.Gt, code.Ge, code.Eq, code.Ne,
		code.Jump, code.JumpNot, code.And, code.Or, code.Call, code.Return, code.Print1, code.Pop}
	for n, op := range got {
		if op != n+1 {
			t.Errorf("P10.1: the Op %s is %d, want %d", table[n+1].word, op, n+1)
		}
	}
}

func TestTheExample(t *testing.T) {
	const text = "proc main 0 0 4\nreturn 0\n"
	want := code.Code{Procs: []code.Proc{{Name: "main", From: 0, To: 1, Params: 0, Slots: 0, Type: 4}}, List: []code.Instr{{Op: 27, Arg: 0, More: 0}}}
	if c := parsed(t, text); !reflect.DeepEqual(c, want) || !code.Good(c) || code.Print(c) != text {
		t.Errorf("P10.2: Parse(%q): %v, want %v", text, c, want)
	}
	wantHeights(t, text, "0")
}

// operand: an Arg (and More) that an Op may have in inMain.
func operand(op int) string {
	switch table[op].arg {
	case "0":
		return ""
	case "a slot (a size)":
		return " 0 4"
	case "a type":
		return " 1"
	}
	return " 0"
}

// What each Op takes, and leaves, where it goes on to the one behind it.
func TestEachOpsHeights(t *testing.T) {
	for op, r := range table {
		if slices.Contains([]string{"", "jump", "jumpnot", "and", "or", "call", "return"}, r.word) {
			continue
		}
		line := r.word + operand(op)
		for h := r.takes; h < 4; h++ {
			body := append(slices.Repeat([]string{"const 7"}, h), line, "return 0")
			var want []string
			for n := range h + 1 {
				want = append(want, strconv.Itoa(n))
			}
			want = append(want, strconv.Itoa(h-r.takes+r.leaves))
			wantHeights(t, inMain(strings.Join(body, "; ")), strings.Join(want, " "))
		}
		if r.takes > 0 {
			body := append(slices.Repeat([]string{"const 7"}, r.takes-1), line, "return 0")
			wantBad(t, inMain(strings.Join(body, "; ")))
		}
	}
}

func TestJumps(t *testing.T) {
	wantHeights(t, inMain("jump 0"), "0")
	wantHeights(t, inMain("jump 2; jump 2; return 0"), "0 -1 0")
	wantHeights(t, inMain("const 1; jump 3; pop; pop; return 0"), "0 1 -1 1 0")
	wantBad(t, inMain("const 1; jump 0"))
	wantBad(t, inMain("jump 2; return 0; pop; return 0"))
	wantHeights(t, inMain("const 1; jumpnot 0; return 0"), "0 1 0")
	wantHeights(t, inMain("const 1; jumpnot 3; return 0; jump 2"), "0 1 0 0")
	wantHeights(t, inMain("read; read; jumpnot 5; pop; return 0; pop; return 0"), "0 1 2 1 0 1 0")
	wantBad(t, inMain("read; read; jumpnot 4; pop; return 0"))
	wantBad(t, inMain("jumpnot 1; return 0"))
}

func TestAndOr(t *testing.T) {
	for _, op := range []string{"and", "or"} {
		wantHeights(t, inMain("read; "+op+" 3; read; pop; return 0"), "0 1 0 1 0")
		wantHeights(t, inMain("const 1; read; "+op+" 4; read; add; pop; return 0"), "0 1 2 1 2 1 0")
		wantHeights(t, inMain("read; "+op+" 1; return 0"), "0 1 0")
		wantHeights(t, inMain("read; "+op+" 3; return 0; return 0"), "0 1 0 1")
		wantBad(t, inMain(op+" 1; return 0"))
		wantBad(t, inMain("read; "+op+" 2; return 0"))
		wantBad(t, inMain("read; "+op+" 0; return 0"))
		wantBad(t, inMain("read; "+op+" 2; pop; return 0"))
		wantBad(t, inMain("read; "+op+" 3; return 0; jump 2"))
	}
}

func TestCalls(t *testing.T) {
	const f, g, h = "proc f 2 2 1\nconst 1\nreturn 1\n", "proc g 0 0 4\nreturn 0\n", "proc h 1 64 4\nreturn 0\n"
	wantHeights(t, inMain("const 1; const 2; call 1; return 0")+f+g+h, "0 1 2 1 0 1 0 0")
	wantHeights(t, inMain("const 1; const 2; const 3; call 1; add; pop; return 0")+f+g+h, "0 1 2 3 2 1 0 0 1 0 0")
	wantHeights(t, inMain("call 2; call 0; return 0")+f+g+h, "0 0 0 0 1 0 0")
	wantHeights(t, inMain("const 1; call 3; return 0")+f+g+h, "0 1 0 0 1 0 0")
	wantBad(t, inMain("const 1; call 1; return 0")+f+g+h)
	wantBad(t, inMain("call 3; return 0")+f+g+h)
	wantBad(t, inMain("call 2; pop; return 0")+f+g+h)
	wantBad(t, inMain("call 4; return 0")+f+g+h)
	wantBad(t, inMain("call -1; return 0")+f+g+h)
	wantHeights(t, "proc f 0 0 1\ncall 0\nreturn 1\n", "0 1")
}

func TestReturns(t *testing.T) {
	wantHeights(t, inMain("read; read; return 0"), "0 1 2")
	wantHeights(t, "proc f 0 0 1\nread\nread\nreturn 1\n", "0 1 2")
	wantBad(t, "proc f 0 0 1\nreturn 1\n")
	wantBad(t, "proc f 0 0 1\nread\nreturn 0\n")
	wantBad(t, "proc f 0 0 4\nread\nreturn 1\n")
	for _, arg := range []string{"2", "-1", "4"} {
		wantBad(t, "proc f 0 0 1\nread\nread\nread\nread\nreturn "+arg+"\n")
		wantBad(t, "proc f 0 0 4\nread\nread\nread\nread\nreturn "+arg+"\n")
	}
	// Of those that nothing leads to, too.
	wantBad(t, inMain("return 0; return 1"))
	wantBad(t, "proc f 0 0 1\nread\nreturn 1\nreturn 0\n")
}

func TestTwoHeights(t *testing.T) {
	wantBad(t, inMain("read; jumpnot 3; read; return 0"))
	wantHeights(t, inMain("read; jumpnot 3; mark 1; return 0"), "0 1 0 0")
	wantHeights(t, inMain("read; jumpnot 4; read; jump 5; const 0; print 1; return 0"), "0 1 0 1 0 1 0")
	wantBad(t, inMain("read; jumpnot 4; mark 5; jump 5; const 0; print 1; return 0"))
	wantBad(t, inMain("mark 0; read; jump 0"))
	wantBad(t, inMain("mark 0; read; jump 1"))
	// Where both are above what it takes, too.
	wantBad(t, inMain("read; read; read; jumpnot 5; read; pop; return 0"))
}

// Those that nothing leads to have none, whatever they take and lead to.
func TestThoseThatNothingLeadsTo(t *testing.T) {
	wantHeights(t, inMain("return 0; return 0"), "0 -1")
	wantHeights(t, inMain("return 0; pop; add; jump 0"), "0 -1 -1 -1")
	wantHeights(t, inMain("jump 3; add; jump 1; return 0"), "0 -1 -1 0")
	wantHeights(t, inMain("jump 0; read; jump 0; read; jump 1"), "0 -1 -1 -1 -1")
	wantHeights(t, inMain("jump 0; pop"), "0 -1")
	wantHeights(t, inMain("return 0; read; or 1")+"proc f 0 0 4\nreturn 0\nmark 0\n", "0 -1 -1 0 -1")
	for _, bad := range []string{"mark 1000", "mark -1", "load 2", "store -1", "new 0 0", "new 2 1", "jump 2", "and -1", "call 1", "print 3"} {
		wantBad(t, inMain("return 0; "+bad))
	}
}

func TestNoneIsBeyond(t *testing.T) {
	for _, last := range []string{"mark 0", "const 1", "new 0 1", "call 0", "read; pop", "read; jumpnot 0", "read; or 1", "read; and 0"} {
		wantBad(t, inMain(last))
		wantBad(t, inMain(last)+"proc f 0 0 4\nreturn 0\n")
		wantBad(t, "proc f 0 0 4\nreturn 0\n"+inMain("read; jumpnot 3; "+last))
	}
}

func TestGreatestHeight(t *testing.T) {
	reads := func(n int) string { return strings.Repeat("read; ", n) }
	c := parsed(t, inMain(reads(200)+"return 0"))
	if l, good := code.Heights(c); !good || l[200] != 200 {
		t.Errorf("P10.1: behind 200 reads: %d, %v", l[200], good)
	}
	wantBad(t, inMain(reads(201)+"return 0"))
	wantBad(t, inMain(reads(201)+"pop; return 0"))
	wantBad(t, inMain(reads(200)+"mark 0; jump 202; const 1; jump 202"))
	parsed(t, inMain(reads(200)+"add; read; and 205; mark 0; read; return 0"))
	wantBad(t, inMain(reads(200)+"call 1; return 0")+"proc f 0 0 1\nread\nreturn 1\n")
	parsed(t, inMain(reads(200)+"call 1; return 0")+"proc f 1 1 1\nread\nreturn 1\n")
	parsed(t, inMain(reads(200)+"call 1; return 0")+"proc f 64 64 1\nread\nreturn 1\n")
}

func TestArgs(t *testing.T) {
	// wantArg: an Op with an Arg, in a procedure that has the places 2 to 6, and 64 slots.
	wantArg := func(op string, arg int, good bool) {
		t.Helper()
		line := op + " " + strconv.Itoa(arg)
		if op == "new" {
			line += " 64"
		}
		text := lines("proc main 0 0 4", "mark 0", "return 0", "proc f 0 64 4", "return 0", line, "mark 0", "mark 0", "mark 0", "proc g 0 0 4", "return 0")
		if _, _, e := code.Parse(text); (e == api.OK) != good {
			t.Errorf("P10.1: %s is %v, want good %v", line, e, good)
		}
	}
	for _, x := range []struct {
		op              string
		least, greatest int
	}{
		{"mark", 0, 999}, {"load", 0, 63}, {"store", 0, 63}, {"loadat", 0, 63}, {"storeat", 0, 63}, {"new", 0, 63},
		{"jump", 2, 6}, {"jumpnot", 2, 6}, {"and", 2, 6}, {"or", 2, 6}, {"call", 0, 2}, {"print", 1, 2}, {"return", 0, 0},
		{"const", math.MinInt, math.MaxInt},
	} {
		for _, arg := range []int{x.least, x.least/2 + x.greatest/2, x.greatest} {
			wantArg(x.op, arg, true)
		}
		for _, arg := range []int{math.MinInt, math.MinInt + 1, -1 << 32, -1, x.least - 1, x.greatest + 1, 1 << 32, math.MaxInt} {
			wantArg(x.op, arg, arg >= x.least && arg <= x.greatest)
		}
	}
	wantBad(t, lines("proc main 0 0 4", "load 0", "return 0"))
	wantBad(t, lines("proc main 0 1 4", "load 1", "return 0", "proc f 0 2 4", "return 0"))
}

func TestMore(t *testing.T) {
	for more, good := range map[int]bool{math.MinInt: false, -1: false, 0: false, 1: true, 2: true, 63: true, 64: true, 65: false, math.MaxInt: false} {
		text := inMain("new 0 " + strconv.Itoa(more) + "; return 0")
		if good {
			parsed(t, text)
		} else {
			wantBad(t, text)
		}
	}
	for op, r := range table {
		if r.word == "" || r.word == "new" {
			continue
		}
		for _, more := range []int{math.MinInt, -1, 1, 64, math.MaxInt} {
			c := parsed(t, inMain("return 0; "+r.word+operand(op)))
			c.List[1].More = more
			wantNone(t, c)
		}
	}
}

// An Op without an Arg has 0, and none stands outside the table.
func TestOps(t *testing.T) {
	for op, r := range table {
		if r.arg != "0" {
			continue
		}
		for _, arg := range []int{math.MinInt, -1, 1, 2, math.MaxInt} {
			c := parsed(t, inMain("return 0; "+r.word))
			if c.List[1].Op != op || c.List[1].Arg != 0 {
				t.Errorf("P10.1: %s is parsed as %v", r.word, c.List[1])
			}
			c.List[1].Arg = arg
			wantNone(t, c)
		}
	}
	for _, op := range []int{math.MinInt, -1, 0, 30, 31, 1 << 32, math.MaxInt} {
		c := parsed(t, inMain("return 0; mark 0"))
		c.List[1].Op = op
		wantNone(t, c)
		c = parsed(t, inMain("mark 0; return 0"))
		c.List[0].Op = op
		wantNone(t, c)
	}
}

func TestProcedures(t *testing.T) {
	for head, good := range map[string]bool{
		"0 0 4": true, "0 64 4": true, "64 64 4": true, "1 1 4": true, "1 2 4": true,
		"-1 0 4": false, "1 0 4": false, "65 64 4": false, "0 65 4": false, "65 65 4": false, "0 -1 4": false, "-2 -1 4": false,
		"0 0 0": false, "0 0 1": false, "0 0 2": false, "0 0 3": false, "0 0 5": false, "0 0 -4": false,
		"-9223372036854775808 0 4": false, "0 9223372036854775807 4": false, "0 0 9223372036854775807": false,
	} {
		text := "proc f " + head + "\nreturn 0\n"
		for _, whole := range []string{text, "proc main 0 0 4\nreturn 0\n" + text, text + "proc main 0 0 4\nreturn 0\n"} {
			if good {
				parsed(t, whole)
			} else {
				wantBad(t, whole)
			}
		}
	}
	parsed(t, "proc f 3 3 1\nread\nreturn 1\n")
}

// A procedure has an instruction at least.
func TestEmptyProcedures(t *testing.T) {
	const empty, main = "proc f 0 0 4\n", "proc main 0 0 4\nreturn 0\n"
	for _, text := range []string{empty, main + empty, empty + main, main + empty + main} {
		wantBad(t, text)
	}
}

func TestWhereProceduresStand(t *testing.T) {
	good := parsed(t, strings.Repeat("proc f 0 0 4\nmark 0\nmark 1\nreturn 0\n", 3))
	for n := range good.Procs {
		for _, by := range []int{math.MinInt, -100, -3, -2, -1, 1, 2, 3, 100, math.MaxInt} {
			c := code.Code{Procs: slices.Clone(good.Procs), List: good.List}
			c.Procs[n].From += by
			wantNone(t, c)
			c.Procs[n].To += by
			wantNone(t, c)
			c.Procs[n].From -= by
			wantNone(t, c)
		}
	}
	wantNone(t, code.Code{Procs: good.Procs[:2], List: good.List})
	wantNone(t, code.Code{Procs: good.Procs[1:], List: good.List})
	wantNone(t, code.Code{Procs: good.Procs, List: good.List[:8]})
	wantNone(t, code.Code{Procs: good.Procs, List: append(slices.Clone(good.List), code.Instr{Op: code.Return})})
	wantNone(t, code.Code{Procs: []code.Proc{good.Procs[0], good.Procs[2], good.Procs[1]}, List: good.List})
	wantNone(t, code.Code{Procs: []code.Proc{good.Procs[0], good.Procs[0], good.Procs[2]}, List: good.List})
}

func TestNoCode(t *testing.T) {
	for _, c := range []code.Code{
		{},
		{Procs: []code.Proc{}, List: []code.Instr{}},
		{List: []code.Instr{{Op: code.Return}}},
		{Procs: []code.Proc{{Name: "main", Type: 4}}},
		{Procs: []code.Proc{{Name: "main", To: 1, Type: 4}}},
		{Procs: []code.Proc{{Name: "main", To: -1, Type: 4}}},
		{Procs: []code.Proc{{}}, List: []code.Instr{{}}},
		{Procs: []code.Proc{{Name: "main", To: math.MaxInt, Type: 4}}, List: []code.Instr{{Op: code.Return}}},
		{Procs: []code.Proc{{Name: "main", From: math.MinInt, To: math.MaxInt, Type: 4}}, List: []code.Instr{{Op: code.Return}}},
	} {
		wantNone(t, c)
	}
}

func TestNames(t *testing.T) {
	of := func(name string) code.Code {
		return code.Code{Procs: []code.Proc{{Name: name, To: 1, Type: api.Unit}}, List: []code.Instr{{Op: code.Return}}}
	}
	for _, name := range []string{"x", "_", "main", "f1", "A_b9", "Func", "funcs", "prints", "mark", "const", "proc", "jump", "add", strings.Repeat("x", 100000)} {
		if c := of(name); !code.Good(c) || code.Print(c) != "proc "+name+" 0 0 4\nreturn 0\n" {
			t.Errorf("P10.1: %.20q is no name", name)
		}
		parsed(t, "proc "+name+" 0 0 4\nreturn 0\n")
	}
	for _, name := range []string{"", " ", "1", "1x", "x ", " x", "x y", "x\n", "\nx", "x\x00", "é", "xé", "x.y", "x-1", "+", "#", "x#", "if", "func", "int", "var", "else", "while", "break", "continue", "return", "print", "read", "true", "false"} {
		wantNone(t, of(name))
		wantFault(t, "proc "+name+" 0 0 4\nreturn 0\n", 1)
	}
}

// Code may be as long as it likes; those that wait must not be calls.
func TestLongCode(t *testing.T) {
	const long = 300000
	c := code.Code{Procs: []code.Proc{{Name: "main", To: long, Type: api.Unit}}}
	for n := range long - 1 {
		c.List = append(c.List, code.Instr{Op: code.Jump, Arg: n + 1})
	}
	c.List = append(c.List, code.Instr{Op: code.Return})
	for n := 0; n+3 < long; n += 3 {
		c.List[n], c.List[n+1] = code.Instr{Op: code.Read}, code.Instr{Op: code.JumpNot, Arg: max(n-3, 0)}
	}
	l, good := code.Heights(c)
	if !good || len(l) != long || l[long-1] != 0 || l[1] != 1 {
		t.Errorf("P10.1: long code: %v", good)
	}
	if s := code.Print(c); strings.Count(s, "\n") != long+1 {
		t.Errorf("P10.1: long code has %d lines", strings.Count(s, "\n"))
	}
	c.List[long-1] = code.Instr{Op: code.Pop}
	if code.Good(c) {
		t.Error("P10.1: a pop at the end of long code")
	}
}
