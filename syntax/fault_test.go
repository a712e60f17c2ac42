package syntax_test

import (
	"strings"
	"testing"

	"rewind/api"
	"rewind/syntax"
)

// wantFault: a text, but for the first @, whose place is where the error is, is none.
func wantFault(t *testing.T, marked string, want api.Errno) {
	t.Helper()
	ahead, behind, ok := strings.Cut(marked, "@")
	if !ok {
		t.Fatalf("%q has no mark", marked)
	}
	wantFaultAt(t, ahead+behind, len(ahead), want)
}

func wantFaultAt(t *testing.T, text string, place int, want api.Errno) {
	t.Helper()
	p, at, e := syntax.Parse(text)
	if at != place || e != want {
		t.Errorf("P4.1: Parse(%.300q): %d, %d, want %d, %d", text, at, e, place, want)
	}
	if len(p.Exprs) != 0 || len(p.Stmts) != 0 || len(p.Funcs) != 0 {
		t.Errorf("P4.1: Parse(%.300q): %d, and beside it %d expressions, %d statements, %d functions", text, e, len(p.Exprs), len(p.Stmts), len(p.Funcs))
	}
}

func TestTooLong(t *testing.T) {
	right := "func f() { }"
	fill := strings.Repeat(" ", api.MaxText-len(right))
	wantTree(t, right+fill, api.Tree{Funcs: []api.Func{{Name: "f", Type: api.Unit, Span: span(0, len(right))}}})
	wantFault(t, "@"+right+fill+" ", api.ErrLong)
	wantFault(t, "@"+right+fill+"\x00", api.ErrLong)
	wantFault(t, "@"+strings.Repeat("x", api.MaxText+1), api.ErrLong)
	wantFault(t, "@"+strings.Repeat("\xff", 3*api.MaxText), api.ErrLong)
	wantFault(t, "@"+strings.Repeat("x", api.MaxText), api.ErrParse)
}

// What is no token comes ahead of all other errors, wherever it stands.
func TestNoToken(t *testing.T) {
	for _, marked := range []string{
		"@$", "func f() { print @&; }", "func f() { print x @| y; }", "func f() { x = @01; }", "func f() { x = @1a; }",
		"func f() { } @.", "func f() { @\xff }", "func f() { x = @1234567890123456789; }", "x @$", "func func @$", "func f( @: ",
		"func f() { # &\n @& }",
		"func f() { print " + strings.Repeat("(", 70) + "1 @$",
		strings.Repeat("func f(){}", 40) + " @$",
		"func f() { " + strings.Repeat("x=1;", 1005) + " } @$",
	} {
		wantFault(t, marked, api.ErrToken)
	}
}

func TestNoFunction(t *testing.T) {
	for _, marked := range []string{
		"@", "  @", "\n# func f() { }\n@", "@x", " @1", "@;", "@}", "@{ }", "@f() { }", "@main() { }", "@int f() { }", "@print 1;", "@var x = 1;", "@(", "@if true { }", "#\n@end",
	} {
		wantFault(t, marked, api.ErrParse)
	}
}

func TestWrongFunctions(t *testing.T) {
	for _, marked := range []string{
		"func@", "func @() { }", "func @1() { }", "func @if() { }", "func @func() { }", "func @int() { }",
		"func f@", "func f @{ }", "func f @g", "func f @= 1", "func f @[1]",
		"func f(@", "func f(@,) { }", "func f(@1) { }", "func f(@int) { }", "func f(@int a) { }", "func f(@(", "func f(@{",
		"func f(a@", "func f(a @b) { }", "func f(a @;", "func f(a @int) { }", "func f(a @[1]) { }", "func f(a @{ }",
		"func f(a,@", "func f(a,@) { }", "func f(a, @, b) { }", "func f(a, @2) { }", "func f(a, b@",
		"func f()@", "func f() @;", "func f() @x", "func f() @bool { }", "func f() @1", "func f() @( { }", "func f() @) { }", "func f() @}",
		"func f() int@", "func f() int @int { }", "func f() int @;", "func f() int @x",
		"func f() {@", "func f() { @func g() { } }", "func f() { @]",
		"func f() { } @}", "func f() { } @;", "func f() { } @x", "func f() { } @{ }", "func f() { } @1", "func f() { } @int", "func f() { } func@", "func f() { } func g() {@",
	} {
		wantFault(t, marked, api.ErrParse)
	}
}

func TestWrongStatements(t *testing.T) {
	for _, marked := range []string{
		"@1;", "@(x);", "@-x;", "@!x;", "@true;", "@read;", "@int x;", "@else { }", "@;", "@{ }", "@)", "@]", "@,", "@= 1;", "@func", "@[1] = 1;",
		"var @;", "var @1 = 1;", "var @if = 1;", "var @int = 1;", "var @[1];", "var @= 1;", "var x @;", "var x @y", "var x @== 1;", "var x @(1);", "var x @}",
		"var x = @;", "var x = @= 1;", "var x = 1 @}", "var x = 1 @, y = 2;", "var x = 1 @y = 2;", "var x = @var y = 1;",
		"var a[@];", "var a[@x];", "var a[@-1];", "var a[@(1)];", "var a[1 @+ 1];", "var a[1 @;", "var a[1 @, 2];", "var a[1] @= 1;", "var a[1] @}", "var a[1]@[2];",
		"x @;", "x @y", "x @+ 1;", "x @== 1;", "x @}", "x @, y = 1;", "x @) = 1;", "x = @;", "x = 1 @}", "x = 1 @= 2;", "x = @= 1;", "x = y @= 1;",
		"a[@] = 1;", "a[1 @;", "a[1 @) = 1;", "a[1 @, 2] = 1;", "a[1] @;", "a[1] @+ 2;", "a[1] @== 2;", "a[1]@[2] = 3;", "a[1] @}", "a[1] = @;", "a[1] = 2 @}", "a[1] = 2 @= 3;",
		"if @{ }", "if @;", "if @= { }", "if x @y { }", "if x @;", "if x @}", "if x @= 1 { }", "if x @else { }", "if x { @) }", "if x { } @;", "if x { } else @;", "if x { } else @x = 1;", "if x { } else @while x { }", "if x { } else { } @else { }", "if x { } else if @{ }", "if x { } else if y @;", "if x { } else if y { } else { } @else { }", "if x { } else @else { }",
		"while @{ }", "while @;", "while x @;", "while x @y", "while x { } @;", "while x { } @else { }", "while x @do { }",
		"break @x;", "break @}", "break @1;", "continue @1;", "continue @}", "continue @continue;",
		"return 1 @2;", "return @}", "return @,;", "return x @}", "return x @, y;", "return @return;",
		"print @;", "print x @y;", "print @}", "print x @}", "print x @, y;", "print @print x;", "print @];",
		"f(@;", "f(@,);", "f(@];", "f(1 @;", "f(1 @2);", "f(1 @];", "f(1, @);", "f(1, @, 2);", "f() @}", "f() @+ 1;", "f()@();", "f()@[1] = 2;", "f() @= 1;", "f() @g();",
	} {
		wantFault(t, "func f() { x = 0; "+marked+" }", api.ErrParse)
	}
}

func TestWrongExpressions(t *testing.T) {
	for _, marked := range []string{
		"@", "@)", "@]", "@}", "@,", "@=", "@* 1", "@+ 1", "@&& x", "@== 1", "@if", "@int", "@func", "@var", "@break", "@[1]", "@{ }", "@else",
		"(@)", "(@]", "(@", "(1 @", "(1 @]", "(1 @, 2)", "((1) @", "(1) @)", "(1 @2)", "(1 @= 2)", "(@* 1)",
		"a[@]", "a[@", "a[1 @)", "a[1 @, 2]", "a[1 @", "a[1]@[2]", "a[1]@(2)", "a[1] @]", "(a)@[1]", "1@[2]",
		"f(@", "f(@,)", "f(1 @", "f(1,@)", "f(1,@", "f(1 @2)", "f(1, 2 @]", "f()@()", "f(1)@[2]", "(f)@(1)", "1@(2)", "true@(1)", "read@()",
		"- @", "! @", "- @)", "!@", "-@* 1", "! @= 1", "!@)",
		"1 + @", "1 + @* 2", "1 + @)", "1 @2", "1 @x", "1 @!x", "1 @= 2", "1 @(2)", "1 * @/ 2", "1 && @", "1 || @|| 2", "1 < @", "1 < @< 2", "1 == @= 2", "true @false", "read @read", "x @y", "x @1", "x @true", "x @!",
		"1 < 2 @< 3", "1 < 2 + 3 @> 4", "1 == 2 @== 3", "1 < 2 @== true", "x || 1 < 2 @< 3", "x && 1 < 2 @< 3 && y", "(1 < 2 @< 3)", "f(1 < 2 @< 3)", "a[1 < 2 @< 3]", "-1 < 2 @!= 3",
	} {
		wantFault(t, "func f() { print "+marked+"; }", api.ErrParse)
	}
}

// A program that ends too early: its End can't stand there, and that is behind all blanks.
func TestEndsTooEarly(t *testing.T) {
	tokens := strings.Fields("func f ( a , b ) int { var x = - 1 ; var c [ 3 ] ; x = ( a ) ; c [ 0 ] = c [ 1 ] ; if a < b && ! true { break ; } else if false || b { continue ; } else { f ( ) ; } while read { f ( 1 , x ) ; } return ; return f ( a % 2 ) ; print x ; }")
	wantRight(t, strings.Join(tokens, " "))
	for n := 1; n < len(tokens); n++ {
		wantFault(t, strings.Join(tokens[:n], " ")+"@", api.ErrParse)
		wantFault(t, "func g() { }\n"+strings.Join(tokens[:n], "\n")+" # }\n @", api.ErrParse)
	}
}
