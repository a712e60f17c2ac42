package print_test

import (
	"testing"

	"rewind/api"
	"rewind/print"
)

// levelOf has the chapter's levels, by signs.
func levelOf() map[string]int {
	return map[string]int{
		"||": 0, "&&": 1,
		"==": 2, "!=": 2, "<": 2, "<=": 2, ">": 2, ">=": 2,
		"+": 3, "-": 3, "*": 4, "/": 4, "%": 4,
	}
}

// wantExpr: an expression's text, and that it is one wherever no brackets are wanted.
func wantExpr(t *testing.T, source, want string) {
	t.Helper()
	for _, s := range []string{source, "(" + source + ")", "((" + source + "))"} {
		p := parsed(t, "func f() { print "+s+"; a["+s+"] = g(1, "+s+", b["+s+"]); }")
		if got := print.Expr(p, p.Stmts[0].A); got != want {
			t.Errorf("P5.1: Expr of %q: %q, want %q", s, got, want)
		}
		if got := print.Expr(p, p.Stmts[1].B); got != "g(1, "+want+", b["+want+"])" {
			t.Errorf("P5.1: Expr: %q, with %q as an argument, and as an index", got, s)
		}
		if got := print.Print(p); got != "func f() {\n  print "+want+";\n  a["+want+"] = g(1, "+want+", b["+want+"]);\n}\n" {
			t.Errorf("P5.1: Print, with %q: %q", s, got)
		}
	}
}

func TestExpressionsWithoutPairs(t *testing.T) {
	for _, s := range []string{"0", "7", "10", "999999999999999999", "true", "false", "read", "x", "_1", "main", "f()", "f(x)", "a[0]"} {
		wantExpr(t, s, s)
	}
	wantExpr(t, "a [ b[ (x) ] ]", "a[b[x]]")
	wantExpr(t, "f ( 1,y , g(z,read) )", "f(1, y, g(z, read))")
	wantExpr(t, "f((1),((2)))", "f(1, 2)")
}

func TestUnary(t *testing.T) {
	for _, op := range []string{"-", "!"} {
		for _, s := range []string{"1", "true", "read", "x", "a[x]", "f(x, y)"} {
			wantExpr(t, op+" "+s, op+s)
			wantExpr(t, op+"("+s+")", op+s)
		}
		wantExpr(t, op+"("+op+"x)", op+op+"x")
	}
	wantExpr(t, "- - x", "--x")
	wantExpr(t, "!-(!(-x))", "!-!-x")
}

func TestUnaryAndPairs(t *testing.T) {
	for sign := range levelOf() {
		pair := "x " + sign + " 1"
		for _, op := range []string{"-", "!"} {
			wantExpr(t, op+"(x"+sign+"1)", op+"("+pair+")")
			wantExpr(t, op+op+"(x"+sign+"1)", op+op+"("+pair+")")
			wantExpr(t, op+"x"+sign+"1", op+pair)
			wantExpr(t, "("+op+"x)"+sign+"("+op+"1)", op+"x "+sign+" "+op+"1")
			wantExpr(t, "x"+sign+" "+op+op+"1", "x "+sign+" "+op+op+"1")
			wantExpr(t, op+"a[x"+sign+"1]", op+"a["+pair+"]")
			wantExpr(t, op+"f(x"+sign+"1)", op+"f("+pair+")")
		}
	}
}

func TestPairs(t *testing.T) {
	for sign := range levelOf() {
		want := "x " + sign + " 1"
		wantExpr(t, "x"+sign+"1", want)
		wantExpr(t, "(x)"+sign+"((1))", want)
		wantExpr(t, "a[("+want+")]"+sign+"f(("+want+"),("+want+"))", "a["+want+"] "+sign+" f("+want+", "+want+")")
	}
}

func TestPairsInPairs(t *testing.T) {
	for whole, n := range levelOf() {
		for part, m := range levelOf() {
			bare := "x " + part + " y"
			first, second := bare, bare
			if m < n || m == 2 && n == 2 {
				first = "(" + bare + ")"
			}
			if m <= n {
				second = "(" + bare + ")"
			}
			wantExpr(t, "(x"+part+"y)"+whole+"z", first+" "+whole+" z")
			wantExpr(t, "z"+whole+"(x"+part+"y)", "z "+whole+" "+second)
			wantExpr(t, "((x"+part+"y))"+whole+"((x"+part+"y))", first+" "+whole+" "+second)
		}
	}
}

// Without brackets, what stands is as it stood.
func TestPairsWithoutBrackets(t *testing.T) {
	for one, n := range levelOf() {
		for two, m := range levelOf() {
			if n != 2 || m != 2 {
				wantExpr(t, "x"+one+"y"+two+"z", "x "+one+" y "+two+" z")
			}
		}
	}
	wantExpr(t, "a||b&&c<d+e*-f", "a || b && c < d + e * -f")
	wantExpr(t, "-a*b+c<d&&e||f", "-a * b + c < d && e || f")
}

func TestPairsDeepInPairs(t *testing.T) {
	wantExpr(t, "(((a||b)&&c)<d+e)*f", "(((a || b) && c) < d + e) * f")
	wantExpr(t, "((a-b)-c)-d", "a - b - c - d")
	wantExpr(t, "a-(b-(c-d))", "a - (b - (c - d))")
	wantExpr(t, "(a-(b-c))-d", "a - (b - c) - d")
	wantExpr(t, "a*(b/(c%d))", "a * (b / (c % d))")
	wantExpr(t, "((a<b)<c)==(d!=e)", "((a < b) < c) == (d != e)")
	wantExpr(t, "!(a<(b<c))", "!(a < (b < c))")
	wantExpr(t, "-(-(a+b)*c)", "-(-(a + b) * c)")
	wantExpr(t, "f((a||(b||c)),((a||b)||c))", "f(a || (b || c), a || b || c)")
}

func TestExprOfEachPart(t *testing.T) {
	p := parsed(t, "func f() { print (1 + 2) * -a[(x < y)] - g(true && (b || c)); }")
	want := []string{"1", "2", "1 + 2", "x", "y", "x < y", "a[x < y]", "-a[x < y]", "(1 + 2) * -a[x < y]", "true", "b", "c", "b || c", "true && (b || c)", "g(true && (b || c))", "(1 + 2) * -a[x < y] - g(true && (b || c))"}
	if len(p.Exprs) != len(want) {
		t.Fatalf("P4.1: %d expressions, want %d", len(p.Exprs), len(want))
	}
	for at, s := range want {
		if got := print.Expr(p, at); got != s {
			t.Errorf("P5.1: Expr at %d: %q, want %q", at, got, s)
		}
	}
}

func TestExprOfNoPlace(t *testing.T) {
	p := parsed(t, "func f() { print 1; }")
	for _, at := range []int{-1, 1, 1 << 62, -1 << 63} {
		if s := print.Expr(p, at); s != "" {
			t.Errorf("P6: Expr at %d, where there is none: %q", at, s)
		}
	}
	if s := print.Expr(api.Tree{}, 0); s != "" {
		t.Errorf("P6: Expr of no expressions: %q", s)
	}
}
