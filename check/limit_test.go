package check_test

import (
	"strconv"
	"strings"
	"testing"

	"rewind/api"
	"rewind/check"
)

// times: so many names n0, n1 .. as some form has them, with something between.
func times(n int, form, between string) string {
	var l []string
	for i := range n {
		l = append(l, strings.ReplaceAll(form, "N", "n"+strconv.Itoa(i)))
	}
	return strings.Join(l, between)
}

func TestSlots(t *testing.T) {
	for _, form := range []string{"var N = 1;", "var N[2];", "if true { var N = 1; }", "while true { var x[1]; }", "if true { } else { var x = false; }"} {
		info := wantRight(t, "func main() { "+times(64, form, " ")+" }")
		if len(info.Slots) != 1 || len(info.Slots[0]) != 64 {
			t.Errorf("P6.1: Check with 64 of %q: %d", form, info.Slots)
		}
		wantRight(t, "func main() { "+times(64, form, " ")+" } func f() { "+times(64, form, " ")+" }")
		wantRight(t, "func main() { } func f("+times(60, "N", ",")+") { if true { "+times(4, form, " ")+" } }")
		for _, last := range []string{"@var q = 1;", "@var q[1];", "if true { } else { @var n0 = true; }", "while true { @var n0[64]; }"} {
			wantFault(t, "func main() { "+times(64, form, " ")+" "+last+" print q; }", api.ErrMany)
			wantFault(t, "func main() { } func f("+times(60, "N", ",")+") { if true { "+times(4, form, " ")+" } "+last+" var n0 = 1; }", api.ErrMany)
		}
	}
}

func TestOrderAtTheLastSlot(t *testing.T) {
	all := "func main() { " + times(64, "var N = 1;", " ")
	wantFault(t, all+" @var n0 = 1; }", api.ErrTwice)
	wantFault(t, all+" @var n63[1]; }", api.ErrTwice)
	wantFault(t, all+" @var n63[0]; }", api.ErrRange)
	wantFault(t, all+" @var x[65]; }", api.ErrRange)
	wantFault(t, all+" var x = @y; }", api.ErrName)
	wantFault(t, all+" var x = @main(); }", api.ErrType)
	wantFault(t, all+" n0 = n63; @break; var x = 1; }", api.ErrJump)
}

func TestManyParameters(t *testing.T) {
	wantRight(t, "func main() { f("+times(64, "1", ",")+"); } func f("+times(64, "N", ",")+") { n0 = n63; }")
	wantFault(t, "func main() { } func f("+times(64, "N", ",")+") { @var x = 1; }", api.ErrMany)
	wantFault(t, "func main() { } func f("+times(64, "N", ",")+") { @var n0 = 1; }", api.ErrTwice)
	wantFault(t, "func main() { } @func f("+times(65, "N", ",")+") { print q; }", api.ErrMany)
	wantFault(t, "func main() { } func f() { } @func g("+times(1000, "N", ",")+") { }", api.ErrMany)
	wantFault(t, "func main() { print @q; } func f("+times(65, "N", ",")+") { }", api.ErrName)
	wantFault(t, "@func main("+times(65, "N", ",")+") { }", api.ErrType)
	// One that is there twice is told first, wherever it is.
	wantFault(t, "func main() { } @func f("+times(64, "N", ",")+", n0) { }", api.ErrTwice)
	wantFault(t, "func main() { } @func f(n0, "+times(65, "N", ",")+") { }", api.ErrTwice)
	wantFault(t, "func main() { } @func f("+times(65, "N", ",")+", n0) { }", api.ErrTwice)
	wantFault(t, "func main() { f("+times(65, "1", ",")+"); } @func f("+times(65, "N", ",")+") { }", api.ErrMany)
}

func TestManyFunctions(t *testing.T) {
	wantRight(t, "func main() { n0(); n30(); } "+times(31, "func N() { main(); "+times(31, "N();", " ")+" }", " "))
	wantFault(t, "func main() { } "+times(30, "func N() { }", " ")+" @func main() { }", api.ErrTwice)
	wantFault(t, "func main() { } "+times(30, "func N() { }", " ")+" func f() { print @q; }", api.ErrName)
}

func TestGreatPrograms(t *testing.T) {
	wantRight(t, "func main() { print 1"+strings.Repeat("+1", 9900)+"; }")
	wantRight(t, "func main() { print true"+strings.Repeat("==true&&true", 1600)+"; }")
	wantFault(t, "func main() { print @true"+strings.Repeat("+1", 9900)+"; }", api.ErrType)
	wantFault(t, "func main() { print @1"+strings.Repeat("+1", 9000)+"+true; }", api.ErrType)
	wantRight(t, "func main() { "+strings.Repeat("print 1;", 1000)+" }")
	wantRight(t, "func main() { "+strings.Repeat("while true { ", 63)+"break;"+strings.Repeat(" }", 63)+" }")
	wantFault(t, "func main() { "+strings.Repeat("while true { ", 63)+strings.Repeat(" }", 63)+" @break; }", api.ErrJump)
	wantFault(t, "func main() { var x = true; print "+strings.Repeat("-", 62)+"@-x; }", api.ErrType)
	wantRight(t, "func main() { print f("+times(63, "0", ",")+"); } func f("+times(63, "N", ",")+") int { }")
}

func TestNoFunctions(t *testing.T) {
	if info, at, e := check.Check(api.Tree{}); at != 0 || e != api.ErrNone || len(info.Slots) != 0 {
		t.Errorf("P6.1: Check of no functions: %+v, %d, %d, want 0, %d", info, at, e, api.ErrNone)
	}
}

// Of a tree that is no text's nothing is promised; but a call ends, and doesn't panic.
func TestOtherTreesEnd(t *testing.T) {
	stmt := func(s api.Stmt, x ...api.Expr) {
		p := api.Tree{Exprs: x, Stmts: []api.Stmt{s}, Funcs: []api.Func{{Name: "main", Type: api.Unit, Body: []int{0}}}}
		if info, _, e := check.Check(p); e == api.OK || len(info.Slots) != 0 {
			t.Errorf("P6: Check of %+v: %+v, %d", p, info, e)
		}
	}
	one := api.Expr{Kind: api.ENum}
	stmt(api.Stmt{Kind: api.SPrint, A: 1}, one)
	stmt(api.Stmt{Kind: api.SPrint, A: -1}, one)
	stmt(api.Stmt{Kind: api.SPut, A: 0, B: 1 << 40}, one)
	stmt(api.Stmt{Kind: api.SPrint}, api.Expr{Kind: api.EUnary, Op: "-"})
	stmt(api.Stmt{Kind: api.SPrint}, api.Expr{Kind: api.EPair, Op: "+", A: 1, B: 1}, api.Expr{Kind: api.EPair, Op: "+"})
	stmt(api.Stmt{Kind: api.SPrint}, api.Expr{Kind: api.ECall, List: []int{0, 0}})
	stmt(api.Stmt{Kind: api.SWhile, Then: []int{0}}, api.Expr{Kind: api.ETrue})
	stmt(api.Stmt{Kind: api.SIf, Else: []int{7}}, api.Expr{Kind: api.ETrue})
	var l []api.Expr
	for at := range 200 {
		l = append(l, api.Expr{Kind: api.EPair, Op: "+", A: max(at-1, 0), B: max(at-1, 0)})
	}
	l[0] = one
	stmt(api.Stmt{Kind: api.SPrint, A: 199}, l...)
}
