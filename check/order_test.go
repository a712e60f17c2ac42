package check_test

import (
	"testing"

	"rewind/api"
)

func TestFunctionsAheadOfAll(t *testing.T) {
	wantFault(t, "func f() { print x; } @func f() { }", api.ErrTwice)
	wantFault(t, "func main(x) int { } func f() { } @func f() { }", api.ErrTwice)
	wantFault(t, "func main() { } func f(x, x) { } @func main() { }", api.ErrTwice)
	wantFault(t, "@func f(x, x) int { print y; } func main() { }", api.ErrNone)
	wantFault(t, "@func main(x, x) { print y; }", api.ErrType)
	wantFault(t, "@func main() int { print y; return; }", api.ErrType)
}

func TestFunctionByFunction(t *testing.T) {
	wantFault(t, "func main() { print @y; } func f(x, x) { }", api.ErrName)
	wantFault(t, "func main() { } @func f(x, x) { print y; }", api.ErrTwice)
	wantFault(t, "func main() { } func f() { @break; } func g(x, x) { }", api.ErrJump)
	wantFault(t, "func main() { @f(); } func f(x) { print y; }", api.ErrType)
}

func TestStatementByStatement(t *testing.T) {
	wantBodyFault(t, "print @q; print r;", api.ErrName)
	wantBodyFault(t, "@break; print q;", api.ErrJump)
	wantBodyFault(t, "if b { @continue; } else { print q; }", api.ErrJump)
	wantBodyFault(t, "if b { } else { print @q; } print r;", api.ErrName)
	wantBodyFault(t, "while b { @i = b; } break;", api.ErrType)
	wantBodyFault(t, "if b { @var c[0]; } else if q { }", api.ErrRange)
}

// An if's, and a while's, Bool is looked for ahead of its blocks.
func TestConditionsAheadOfBlocks(t *testing.T) {
	for _, s := range []string{"if", "while"} {
		wantBodyFault(t, "@"+s+" 1 { print q; }", api.ErrType)
		wantBodyFault(t, s+" @u() { print q; }", api.ErrType)
		wantBodyFault(t, s+" @q { break; }", api.ErrName)
		wantBodyFault(t, s+" b { print @q; } break;", api.ErrName)
	}
	wantBodyFault(t, "@if i { } else { print q; }", api.ErrType)
	wantBodyFault(t, "if b { print @q; } else if i { }", api.ErrName)
}

func TestPartsAheadOfTheWhole(t *testing.T) {
	wantBodyFault(t, "print true + (1 + @q);", api.ErrName)
	wantBodyFault(t, "print (@true + 1) + q;", api.ErrType)
	wantBodyFault(t, "print @q + r;", api.ErrName)
	wantBodyFault(t, "print 1 + true * @q;", api.ErrName)
	wantBodyFault(t, "print q(@r);", api.ErrName)
	wantBodyFault(t, "print q[@r];", api.ErrName)
	wantBodyFault(t, "print i[@a];", api.ErrName)
	wantBodyFault(t, "print f2(@-b, q);", api.ErrType)
	wantBodyFault(t, "print f2(b, @q);", api.ErrName)
	wantBodyFault(t, "print f0(1, @q);", api.ErrName)
	wantBodyFault(t, "print !(1 + @!1);", api.ErrType)
}

func TestExpressionsAheadOfTheirStatement(t *testing.T) {
	wantBodyFault(t, "q = @r;", api.ErrName)
	wantBodyFault(t, "q = @1 + b;", api.ErrType)
	wantBodyFault(t, "a = @q;", api.ErrName)
	wantBodyFault(t, "q[@r] = s;", api.ErrName)
	wantBodyFault(t, "q[0] = @s;", api.ErrName)
	wantBodyFault(t, "a[true] = @q;", api.ErrName)
	wantBodyFault(t, "a[@!1] = q;", api.ErrType)
	wantBodyFault(t, "var i = @q;", api.ErrName)
	wantBodyFault(t, "return @q;", api.ErrName)
	wantBodyFault(t, "if b { var i = @i == b; } var i = 1;", api.ErrType)
}

func TestOfAnExpressionItself(t *testing.T) {
	// Its parts' values are looked for when all of them are right by themselves ..
	wantBodyFault(t, "print u() + @q;", api.ErrName)
	wantBodyFault(t, "print f2(u(), @q);", api.ErrName)
	wantBodyFault(t, "print f2(u(), @-b);", api.ErrType)
	wantBodyFault(t, "print @u() + u();", api.ErrType)
	wantBodyFault(t, "print f2(1, @u());", api.ErrType)
	wantBodyFault(t, "print f2(@u(), u());", api.ErrType)
	// .. and then its name ..
	wantBodyFault(t, "print q(@u());", api.ErrType)
	wantBodyFault(t, "print q(1, @u());", api.ErrType)
	wantBodyFault(t, "print q[@u()];", api.ErrType)
	wantBodyFault(t, "print i[@u()];", api.ErrType)
	wantBodyFault(t, "print @q(true);", api.ErrName)
	wantBodyFault(t, "print @q[true];", api.ErrName)
	wantBodyFault(t, "print @i[true];", api.ErrName)
	// .. and then their types.
	wantBodyFault(t, "print f0(@u());", api.ErrType)
	wantBodyFault(t, "print f1(true, @u());", api.ErrType)
	wantBodyFault(t, "print true + @u();", api.ErrType)
	wantBodyFault(t, "print @true + i == b;", api.ErrType)
}

func TestOfAStatementItself(t *testing.T) {
	wantBodyFault(t, "q = @u();", api.ErrType)
	wantBodyFault(t, "q[@u()] = 1;", api.ErrType)
	wantBodyFault(t, "q[0] = @u();", api.ErrType)
	wantBodyFault(t, "a[u()] = @q;", api.ErrName)
	wantBodyFault(t, "a[true] = @u();", api.ErrType)
	wantBodyFault(t, "a[@u()] = u();", api.ErrType)
	wantBodyFault(t, "var i = @u();", api.ErrType)
	wantBodyFault(t, "return @u();", api.ErrType)
	wantBodyFault(t, "@var i[0];", api.ErrRange)
	wantBodyFault(t, "@var i[64];", api.ErrTwice)
	wantBodyFault(t, "@q[true] = 1;", api.ErrName)
	wantBodyFault(t, "@i[0] = true;", api.ErrName)
	wantBodyFault(t, "@a = true;", api.ErrName)
}
