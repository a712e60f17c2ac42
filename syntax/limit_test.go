package syntax_test

import (
	"strings"
	"testing"

	"rewind/api"
)

// inBlock: a function with a row of statements in a block of a depth.
func inBlock(depth int, row string) string {
	return "func f() { " + strings.Repeat("while y { ", depth-1) + row + strings.Repeat(" }", depth)
}

func TestBlockOfTheGreatestDepth(t *testing.T) {
	for _, row := range []string{
		"", "break;", "continue; break;", "print x;", "print 1 + 2 * 3 < 4 && x || y;", "x = a; y = b;", "return;", "return x;", "var v = x;", "var a[3];", "f();", "print f();", "var v = read + true;",
	} {
		wantRight(t, inBlock(api.MaxDepth, row))
	}
}

func TestBlocksThatAreTooDeep(t *testing.T) {
	for _, row := range []string{
		"while x @{ }", "if x @{ }", "if x @{ } else { }", "if x @{ } else if y { }", "break; while x @{ while y { } }", "if x @{ print 1 2; }", "while x @{",
	} {
		wantFault(t, inBlock(api.MaxDepth, row), api.ErrDeep)
	}
}

func TestEachBlockIsDeeper(t *testing.T) {
	for _, block := range []string{"while x { ", "if x { ", "if x { } else { ", "if x { } else if y { ", "x = 1; while x { y = 2; "} {
		each := 1
		if strings.Contains(block, "else if") {
			each = 2
		}
		n := (api.MaxDepth - 1) / each
		deepest := 1 + n*each
		ahead, behind := "func f() { "+strings.Repeat(block, n), strings.Repeat(" }", n+1)
		wantRight(t, ahead+behind)
		if deepest == api.MaxDepth {
			wantFault(t, ahead+"while x @{ }"+behind, api.ErrDeep)
			wantFault(t, ahead+"if x @{ }"+behind, api.ErrDeep)
		} else {
			wantFault(t, ahead+"while x { if x @{ } }"+behind, api.ErrDeep)
		}
	}
}

func TestEachIfBehindElseIsDeeper(t *testing.T) {
	// The n-th if of such a row has the depth n, its blocks 1 more.
	row := func(n int) string { return "func f() { " + strings.Repeat("if x { } else ", n) }
	wantRight(t, row(api.MaxDepth-2)+"if x { } }")
	wantRight(t, row(api.MaxDepth-2)+"if x { print x; } else { print x; } }")
	wantRight(t, row(api.MaxDepth-2)+"if (x) { } }")
	wantFault(t, row(api.MaxDepth-1)+"if x @{ } }", api.ErrDeep)
	wantFault(t, row(api.MaxDepth-1)+"if x @{ } else { } }", api.ErrDeep)
	wantFault(t, row(api.MaxDepth-1)+"if x @{ } else if x { } }", api.ErrDeep)
	wantFault(t, row(api.MaxDepth-1)+"if (@x) { } }", api.ErrDeep)
	wantFault(t, row(api.MaxDepth-2)+"if x { while y @{ } } }", api.ErrDeep)
	wantFault(t, row(api.MaxDepth-2)+"if x { } else { while y @{ } } }", api.ErrDeep)
	wantFault(t, row(api.MaxDepth-2)+"if x { print -@1; } }", api.ErrDeep)
}

// deepening: what may stand ahead of an expression, and behind it, and makes it 1 deeper.
func deepening() [][2]string {
	return [][2]string{{"(", ")"}, {"a[", "]"}, {"f(", ")"}, {"f(", ", 1)"}, {"-", ""}, {"!", ""}}
}

// deepeningInPairs: the same, of which no part is a sign's, so that what stands ahead may be part of a pair.
func deepeningInPairs() [][2]string {
	return [][2]string{{"1 + (", ")"}, {"(", ") < 2"}, {"x && y == (", ")"}, {"1 * a[2 + ", "]"}, {"f(x && ", ", z) || z"}}
}

func nested(n int, around [2]string, inner string) string {
	return strings.Repeat(around[0], n) + inner + strings.Repeat(around[1], n)
}

func TestExpressionsOfTheGreatestDepth(t *testing.T) {
	for _, around := range append(deepening(), deepeningInPairs()...) {
		for _, inner := range []string{"x", "7", "true", "f()", "read", "x + 1 * 2", "x || y && z < 1"} {
			wantRight(t, inBlock(1, "print "+nested(api.MaxDepth-1, around, inner)+";"))
			wantRight(t, inBlock(40, "print "+nested(api.MaxDepth-40, around, inner)+";"))
		}
	}
}

// begins: where the part that is marked is not the first of an expression, that one begins ahead of it.
func begins(around [2]string) string {
	for _, ahead := range []string{"1 * a[", "f("} {
		if s, ok := strings.CutPrefix(around[0], ahead); ok {
			return ahead + "@" + s
		}
	}
	return around[0] + "@"
}

func TestExpressionsThatAreTooDeep(t *testing.T) {
	for _, around := range append(deepening(), deepeningInPairs()...) {
		last := [2]string{begins(around), around[1]}
		for _, inner := range []string{"x", "7", "true", "f()", "(x)", "-x", "x + 1"} {
			wantFault(t, inBlock(1, "print "+nested(api.MaxDepth-1, around, nested(1, last, inner))+";"), api.ErrDeep)
			wantFault(t, inBlock(40, "print "+nested(api.MaxDepth-40, around, nested(1, last, inner))+";"), api.ErrDeep)
			wantFault(t, inBlock(api.MaxDepth, "print "+nested(1, last, inner)+";"), api.ErrDeep)
		}
	}
}

func TestDepthsOfAllKindsAddUp(t *testing.T) {
	for _, first := range deepening() {
		for _, second := range deepening() {
			both := nested(20, first, nested(23, second, "x"))
			wantRight(t, inBlock(api.MaxDepth-43, "x = "+both+";"))
			marked := nested(20, first, nested(23, second, "(@x)"))
			wantFault(t, inBlock(api.MaxDepth-43, "x = "+marked+";"), api.ErrDeep)
		}
	}
}

func TestEachStatementsExpressionsHaveItsBlocksDepth(t *testing.T) {
	for _, statement := range []string{
		"print E;", "x = E;", "var x = E;", "return E;", "a[0] = E;", "print 1 + E;", "print x || y && E;", "x = 1 < E;", "x = 2 * 3 % E;",
	} {
		wantRight(t, inBlock(api.MaxDepth, strings.Replace(statement, "E", "x + 1", 1)))
		for _, inner := range []string{"(@x)", "-@x", "!@x", "a[@x]", "f(@x)", "f(@x, y)"} {
			wantFault(t, inBlock(api.MaxDepth, strings.Replace(statement, "E", inner, 1)), api.ErrDeep)
		}
	}
	for _, statement := range []string{"if E { }", "while E { }"} {
		wantRight(t, inBlock(api.MaxDepth-1, strings.Replace(statement, "E", "(x)", 1)))
		wantFault(t, inBlock(api.MaxDepth-1, strings.Replace(statement, "E", "((@x))", 1)), api.ErrDeep)
		wantFault(t, inBlock(api.MaxDepth, strings.Replace(statement, "E", "(@x)", 1)), api.ErrDeep)
	}
	wantFault(t, inBlock(api.MaxDepth, "f(@x);"), api.ErrDeep)
	wantFault(t, inBlock(api.MaxDepth, "f(@1, x);"), api.ErrDeep)
	wantRight(t, inBlock(api.MaxDepth-1, "f(1, x);"))
	wantFault(t, inBlock(api.MaxDepth-1, "f(1, -@x);"), api.ErrDeep)
}

func TestWhatStandsInARowIsNotDeeper(t *testing.T) {
	wantRight(t, inBlock(api.MaxDepth, "x = 1"+strings.Repeat(" + 1", 500)+";"))
	wantRight(t, inBlock(api.MaxDepth, "x = a"+strings.Repeat(" || a && b", 200)+";"))
	wantRight(t, inBlock(api.MaxDepth-1, "x = (1)"+strings.Repeat(" * (1) - -2 + a[3]", 100)+";"))
	wantRight(t, inBlock(api.MaxDepth-2, "f("+strings.Repeat("(1), -x, a[1], f(1), ", 100)+"1);"))
	wantRight(t, inBlock(api.MaxDepth-1, strings.Repeat("while x { } if y { } else { } ", 100)))
	wantRight(t, strings.Repeat(inBlock(api.MaxDepth, "print x;")+"\n", 10))
}

// Of both at one token it is ErrDeep.
func TestTooDeepAndWrongAtOneToken(t *testing.T) {
	for _, around := range [][2]string{{"(", ")"}, {"a[", "]"}, {"-", ""}, {"!", ""}, {"x < (", ")"}} {
		for _, wrong := range []string{"* 1", ")", "]", ", x", "/ 1", "}", ";", "if", "int", "{"} {
			wantFault(t, inBlock(1, "print "+nested(api.MaxDepth-1, around, around[0]+"@"+wrong)+";"), api.ErrDeep)
			wantFault(t, inBlock(api.MaxDepth, "print "+around[0]+"@"+wrong+around[1]+";"), api.ErrDeep)
			// In one less it is just wrong.
			wantFault(t, inBlock(1, "print "+nested(api.MaxDepth-2, around, around[0]+"@"+wrong)+";"), api.ErrParse)
		}
		wantFault(t, "func f() { print "+strings.Repeat(around[0], api.MaxDepth)+" # x\n@", api.ErrDeep)
		wantFault(t, "func f() { print "+strings.Repeat(around[0], api.MaxDepth-1)+" # x\n@", api.ErrParse)
	}
}

// The first one, token by token.
func TestTheFirstOfSeveral(t *testing.T) {
	deep := strings.Repeat("(", api.MaxDepth)
	wantFault(t, "func f() { print 1 @1; print "+deep+"1; }", api.ErrParse)
	wantFault(t, "func f() { print "+deep+"@1 1; }", api.ErrDeep)
	wantFault(t, "func f() { print "+deep+"@1", api.ErrDeep)
	wantFault(t, "func f() { print "+deep+"@((((((", api.ErrDeep)
	wantFault(t, "func f(@1) { print "+deep+"1; }", api.ErrParse)
	wantFault(t, strings.Repeat("func f() { } ", api.MaxFuncs-1)+"func @1() { } func g() { }", api.ErrParse)
	wantFault(t, strings.Repeat("func f() { } ", api.MaxFuncs)+"@func 1() { }", api.ErrMany)
	wantFault(t, strings.Repeat("func f() { } ", api.MaxFuncs-1)+"func g() { print "+deep+"@1; } func g() { }", api.ErrDeep)
	wantFault(t, "func f() { x @; "+strings.Repeat("x=1;", 1001)+" }", api.ErrParse)
	wantFault(t, "func f() { "+strings.Repeat("x=1;", 1000)+" x @; }", api.ErrParse)
	wantFault(t, "func f() { "+strings.Repeat("x=1;", 1001)+" @x; }", api.ErrMany)
	wantFault(t, "func f() { "+strings.Repeat("x=1;", 1001)+" @print "+deep+"1; }", api.ErrMany)
	wantFault(t, "func f() { "+strings.Repeat("x=1;", 1000)+" print "+deep+"@1; }", api.ErrDeep)
}

func TestManyFunctions(t *testing.T) {
	const one = "func f(a) int { return a; }\n"
	if p := wantRight(t, strings.Repeat(one, api.MaxFuncs)); len(p.Funcs) != api.MaxFuncs {
		t.Errorf("P4.1: %d functions, want %d", len(p.Funcs), api.MaxFuncs)
	}
	wantRight(t, strings.Repeat(one, api.MaxFuncs)+" # func f() { }")
	for _, behind := range []string{"@" + one, "# x\n @func f() { }", "@func", "@func f() { } func f() { }", "@" + strings.Repeat(one, 100)} {
		wantFault(t, strings.Repeat(one, api.MaxFuncs)+behind, api.ErrMany)
	}
}

func TestManyStatements(t *testing.T) {
	thousand := strings.Repeat("x=1;", api.MaxStates)
	for _, text := range []string{
		"func f() { " + thousand + " }",
		"func f() { } func g() { " + thousand + " } func h() { }",
		"func f() { " + thousand[:2000] + " } func g() { " + thousand[2000:] + " }",
		"func f() { while x { " + thousand[4:] + " } }",
		"func f() { if x { " + thousand[:2000] + " } else { " + thousand[2004:] + " } }",
		"func f() { if x { " + thousand[:2000] + " } else if y { " + thousand[2008:] + " } }",
	} {
		if p := wantRight(t, text); len(p.Stmts) != api.MaxStates {
			t.Errorf("P4.1: %d statements, want %d", len(p.Stmts), api.MaxStates)
		}
	}
	for _, marked := range []string{
		"func f() { " + thousand + "y=2; @}",
		"func f() { " + thousand + "y=2;# }\n @y=2; }",
		"func f() { " + thousand + "y=2; @if x { } }",
		"func f() { " + thousand + "return; @while x { } }",
		"func f() { " + thousand + "f(); @return; }",
		"func f() { " + thousand + "if x { } @}",
		"func f() { " + thousand + "if x { } else { } @print x; }",
		"func f() { " + thousand + "if x { } else if y { } @}",
		"func f() { " + thousand + "while x { } @}",
		"func f() { " + thousand + "while x { print x; @} }",
		"func f() { " + thousand + "if x { break; @} else { } }",
		"func f() { while x { " + thousand + " } @}",
		"func f() { while x { " + thousand + " y=2; @} }",
		"func f() { if x { " + thousand + " } @break; }",
		"func f() { " + thousand + " } func g() { break; @}",
		"func f() { " + thousand + " } func g() { break; @break; break; }",
		"func f() { " + thousand + "y=2; @" + thousand + "}",
	} {
		wantFault(t, marked, api.ErrMany)
	}
}
