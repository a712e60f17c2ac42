package check_test

import (
	"strings"
	"testing"

	"rewind/api"
)

func TestStatementsThatFit(t *testing.T) {
	wantBody(t, "var c = i; var d = b; var e[1]; var g[64]; i = read; b = i < c; a[i] = c; e[a[0]] = g[f0()];")
	wantBody(t, "if b { } if true { } else { } if i < 1 { } else if !b { } while b { } while 1 == 1 { i = 2; }")
	wantBody(t, "print i; print b; print a[0]; print f0(); print 1 < 2; return;")
	wantBody(t, "u(); u1(1); f0(); f1(a[0]); f2(f0(), -1); main();")
	wantRight(t, "func main() { return; } func f() int { return 1; } func g(x) int { return x + f(); } func h() int { } func k() int { if true { return 1; } }")
}

func TestSets(t *testing.T) {
	wantBodyFault(t, "@i = true;", api.ErrType)
	wantBodyFault(t, "@b = 1;", api.ErrType)
	wantBodyFault(t, "@i = b;", api.ErrType)
	wantBodyFault(t, "@b = i;", api.ErrType)
	wantBodyFault(t, "var c = b; @c = i;", api.ErrType)
	wantBodyFault(t, "if b { var i = true; i = false; @i = 1; }", api.ErrType)
}

func TestPuts(t *testing.T) {
	wantBodyFault(t, "@a[true] = 1;", api.ErrType)
	wantBodyFault(t, "@a[0] = true;", api.ErrType)
	wantBodyFault(t, "@a[b] = b;", api.ErrType)
	wantBodyFault(t, "@a[1 < 2] = 1;", api.ErrType)
}

func TestIndexes(t *testing.T) {
	wantBodyFault(t, "print @a[true];", api.ErrType)
	wantBodyFault(t, "print a[@a[b]];", api.ErrType)
	wantBodyFault(t, "a[@a[b]] = 1;", api.ErrType)
}

func TestConditions(t *testing.T) {
	for _, s := range []string{"1", "i", "a[0]", "f0()", "read", "-1", "(i)"} {
		wantBodyFault(t, "@if "+s+" { }", api.ErrType)
		wantBodyFault(t, "@while "+s+" { }", api.ErrType)
		wantBodyFault(t, "if b { } else @if "+s+" { } else { }", api.ErrType)
	}
}

func TestReturns(t *testing.T) {
	wantFault(t, "func main() { @return 1; }", api.ErrType)
	wantFault(t, "func main() { @return true; }", api.ErrType)
	wantFault(t, "func main() { if true { while true { @return 1; } } }", api.ErrType)
	wantFault(t, "func main() { } func f() int { @return; }", api.ErrType)
	wantFault(t, "func main() { } func f() int { @return true; }", api.ErrType)
	wantFault(t, "func main() { } func f(x) int { return x; @return x == x; }", api.ErrType)
	wantFault(t, "func main() { } func f() { return @f; }", api.ErrName)
}

func TestCalls(t *testing.T) {
	wantBodyFault(t, "@u(1);", api.ErrType)
	wantBodyFault(t, "@u1();", api.ErrType)
	wantBodyFault(t, "@u1(1, 2);", api.ErrType)
	wantBodyFault(t, "print @f0(1);", api.ErrType)
	wantBodyFault(t, "print @f1();", api.ErrType)
	wantBodyFault(t, "print @f2(1);", api.ErrType)
	wantBodyFault(t, "print @f2(1, 2, 3);", api.ErrType)
	wantBodyFault(t, "@f1(true);", api.ErrType)
	wantBodyFault(t, "@f2(1, b);", api.ErrType)
	wantBodyFault(t, "@f2(b, 1);", api.ErrType)
	wantBodyFault(t, "f2(1, @f1(b));", api.ErrType)
	wantBodyFault(t, "@f2(1, f1(1) == 2);", api.ErrType)
}

func TestUnitWhereAValueMustBe(t *testing.T) {
	for _, s := range []string{"print @U;", "print (@U);", "print 1 + @U;", "print @U + 1;", "print -@U;", "print !@U;", "print @U == U;", "print @U && b;", "print b || @U;", "i = @U;", "b = @U;", "a[@U] = 1;", "a[0] = @U;", "print a[@U];", "if @U { }", "if b { } else if @U { }", "while @U { }", "f1(@U);", "u1(@U);", "print f2(1, @U);", "var c = @U;", "return @U;"} {
		wantBodyFault(t, strings.ReplaceAll(s, "U", "u()"), api.ErrType)
		wantBodyFault(t, strings.ReplaceAll(s, "U", "u1(i)"), api.ErrType)
		wantBodyFault(t, strings.ReplaceAll(s, "U", "main()"), api.ErrType)
	}
	wantFault(t, "func main() { } func f() int { return @main(); }", api.ErrType)
}

func TestJumps(t *testing.T) {
	for _, s := range []string{"break;", "continue;"} {
		wantBody(t, "while b { "+s+" } while b { if b { } else if b { "+s+" } else { while b { } "+s+" } "+s+" }")
		wantBodyFault(t, "@"+s, api.ErrJump)
		wantBodyFault(t, "if b { @"+s+" }", api.ErrJump)
		wantBodyFault(t, "if b { } else { @"+s+" }", api.ErrJump)
		wantBodyFault(t, "while b { "+s+" } @"+s, api.ErrJump)
		wantBodyFault(t, "while b { while b { } } if b { @"+s+" }", api.ErrJump)
		wantFault(t, "func main() { while true { f(); } } func f() { @"+s+" }", api.ErrJump)
	}
}

func TestArrays(t *testing.T) {
	for _, s := range []string{"1", "2", "63", "64"} {
		wantBody(t, "var c["+s+"]; if b { var c["+s+"]; }")
	}
	for _, s := range []string{"0", "65", "66", "1000", "999999999999999999"} {
		wantBodyFault(t, "@var c["+s+"];", api.ErrRange)
		wantBodyFault(t, "while b { @var c["+s+"]; }", api.ErrRange)
	}
}
