package check_test

import (
	"reflect"
	"testing"

	"rewind/api"
)

// wantSlots: of a program's first function's prints their expressions' slots.
func wantSlots(t *testing.T, text string, want ...int) {
	t.Helper()
	p, info := parsed(t, text), wantRight(t, text)
	if len(info.Slot) != len(p.Exprs) {
		return
	}
	var got []int
	for at, s := range p.Stmts {
		if s.Kind == api.SPrint && info.Func[at] == 0 {
			got = append(got, info.Slot[s.A])
		}
	}
	if !reflect.DeepEqual(got, want) {
		t.Errorf("P6.1: Slots of what %q prints: %d, want %d", text, got, want)
	}
}

func TestANameStandsForTheInnermostOne(t *testing.T) {
	wantSlots(t, "func main() { var x = 1; print x; if true { print x; var x = true; print x; while x { print x; var x = 2; print x; } print x; } else { print x; var x = 3; print x; } print x; }", 0, 0, 1, 1, 2, 1, 0, 3, 0)
	wantSlots(t, "func main() { if true { var x = 1; print x; } var x = 2; print x; if true { var x = 3; print x; } print x; }", 0, 1, 2, 1)
	wantSlots(t, "func main() { var x = 1; if true { } else if false { var x = 2; print x; } else if true { print x; var x = 3; print x; } else { var x = 4; print x; } print x; }", 1, 0, 2, 3, 0)
	wantSlots(t, "func main() { while true { var x = 1; print x; } while true { var y = 1; print y; var x = 2; print x; } }", 0, 1, 2)
}

func TestAnArrayAndAVariableOfOneName(t *testing.T) {
	wantSlots(t, "func main() { var x[3]; print x[0]; if true { var x = x[1]; print x; } print x[2]; while true { var x[1]; print x[0]; x[0] = 1; } }", 0, 1, 0, 2)
	wantFault(t, "func main() { var x = 1; if true { var x[1]; @x = 1; } }", api.ErrName)
	wantFault(t, "func main() { var x[1]; if true { var x = 1; @x[0] = 1; } }", api.ErrName)
	wantFault(t, "func main() { var x = 1; if true { var x[1]; } @x[0] = 1; }", api.ErrName)
	wantFault(t, "func main() { var x[1]; if true { var x = 1; } print @x; }", api.ErrName)
}

func TestANameStandsOnlyBehindItsStatement(t *testing.T) {
	wantFault(t, "func main() { var x = @x; }", api.ErrName)
	wantFault(t, "func main() { var x = 1 + @x; }", api.ErrName)
	wantFault(t, "func main() { print @x; var x = 1; }", api.ErrName)
	wantFault(t, "func main() { @x = 1; var x = 1; }", api.ErrName)
	wantFault(t, "func main() { print @x[0]; var x[1]; }", api.ErrName)
	wantFault(t, "func main() { @x[0] = 0; var x[1]; }", api.ErrName)
	wantFault(t, "func main() { while true { print @x; var x = 1; } }", api.ErrName)
	wantSlots(t, "func main() { var x = 1; if true { var x = x == 1; print x; } while true { var x = -x; print x; } }", 1, 2)
	wantFault(t, "func main() { var x = true; if true { var x = @-x; } }", api.ErrType)
}

func TestANameStandsToTheEndOfItsBlock(t *testing.T) {
	wantFault(t, "func main() { if true { var x = 1; } print @x; }", api.ErrName)
	wantFault(t, "func main() { if true { var x = 1; } else { print @x; } }", api.ErrName)
	wantFault(t, "func main() { if true { var x = 1; } else if @x == 1 { } }", api.ErrName)
	wantFault(t, "func main() { if true { } else { var x = 1; } @x = 1; }", api.ErrName)
	wantFault(t, "func main() { while true { var x[1]; } print @x[0]; }", api.ErrName)
	wantFault(t, "func main() { while true { if true { var x[1]; } @x[0] = 1; } }", api.ErrName)
	wantFault(t, "func main() { var x = 1; } func f() { print @x; }", api.ErrName)
	wantFault(t, "func main() { f(1); print @x; } func f(x) { }", api.ErrName)
	wantFault(t, "func main() { } func f(x) { } func g() { @x = 1; }", api.ErrName)
}

func TestParameters(t *testing.T) {
	wantRight(t, "func main() { f(1, 2); } func f(x, y) { print x; x = y; while x < y { if true { y = x; } } }")
	wantRight(t, "func main() { } func f(x, y) { } func g(y, x) { }")
	wantRight(t, "func main() { } func f(x) { if true { var x = true; x = false; } while true { var x[2]; x[0] = 1; } x = 1; }")
	wantFault(t, "func main() { } func f(x) { @x = true; }", api.ErrType)
	wantFault(t, "func main() { } func f(x) { @x[0] = 1; }", api.ErrName)
	wantFault(t, "func main() { } func f(x) { print @x[0]; }", api.ErrName)
}

func TestNamesTwice(t *testing.T) {
	for _, first := range []string{"var x = 1;", "var x[1];"} {
		for _, second := range []string{"var x = 1;", "var x = true;", "var x[64];"} {
			wantFault(t, "func main() { "+first+" @"+second+" }", api.ErrTwice)
			wantFault(t, "func main() { if true { "+first+" print 1; @"+second+" } }", api.ErrTwice)
			wantFault(t, "func main() { if true { } else { "+first+" if true { "+second+" } @"+second+" } }", api.ErrTwice)
			wantFault(t, "func main() { while true { "+first+" while true { "+second+" } @"+second+" } }", api.ErrTwice)
			wantFault(t, "func main() { "+first+" if true { } else if true { } else { "+second+" } @"+second+" }", api.ErrTwice)
			wantRight(t, "func main() { "+first+" } func f() { "+second+" }")
			wantRight(t, "func main() { if true { "+first+" } else { "+second+" } if true { "+second+" } "+first+" while true { "+second+" if true { "+first+" } } }")
		}
		wantFault(t, "func main() { } func f(x) { @"+first+" }", api.ErrTwice)
		wantFault(t, "func main() { } func f(y, x, z) { if true { "+first+" } @"+first+" }", api.ErrTwice)
	}
	wantFault(t, "func main() { var x = 1; @var x = x; }", api.ErrTwice)
}

func TestParametersTwice(t *testing.T) {
	wantFault(t, "func main() { } @func f(x, x) { }", api.ErrTwice)
	wantFault(t, "func main() { } func f(x, y) { } @func g(x, y, z, y) int { }", api.ErrTwice)
	wantFault(t, "func main() { } @func f(z, y, x, z) { print q; }", api.ErrTwice)
}

func TestNamesOfFunctions(t *testing.T) {
	wantRight(t, "func main() { f(); g(); } func f() { g(); f(); main(); } func g() { f(); }")
	wantRight(t, "func main() { var f = 1; f(f); } func f(f) { var main = f; main(); var g[1]; g[0] = g(g[0]); } func g(x) int { }")
	wantFault(t, "func main() { } @func main() { }", api.ErrTwice)
	wantFault(t, "func main() { } func f() { } func g() { } @func f(x) int { }", api.ErrTwice)
	wantFault(t, "func main() { } func f() { } @func f() { } func main() { }", api.ErrTwice)
	wantFault(t, "func main() { @g(); }", api.ErrName)
	wantFault(t, "func main() { var x = 1; @x(); }", api.ErrName)
	wantFault(t, "func main() { var x[1]; print @x(1); }", api.ErrName)
	wantFault(t, "func main() { print @f; } func f() int { }", api.ErrName)
	wantFault(t, "func main() { @f = 1; } func f() int { }", api.ErrName)
	wantFault(t, "func main() { print @f[1]; } func f(x) int { }", api.ErrName)
	wantFault(t, "func main() { @f[1] = 1; } func f(x) int { }", api.ErrName)
	wantFault(t, "func main() { print @Main(); }", api.ErrName)
}

func TestNamesThatMeanSomethingElse(t *testing.T) {
	wantBody(t, "i = 1; b = false; a[0] = 1; print i; print b; print a[0];")
	wantBodyFault(t, "print @a;", api.ErrName)
	wantBodyFault(t, "print 1 + @a;", api.ErrName)
	wantBodyFault(t, "print @a == a;", api.ErrName)
	wantBodyFault(t, "f1(@a);", api.ErrName)
	wantBodyFault(t, "@a = 1;", api.ErrName)
	wantBodyFault(t, "var c = @a;", api.ErrName)
	wantBodyFault(t, "print @i[0];", api.ErrName)
	wantBodyFault(t, "print @b[0];", api.ErrName)
	wantBodyFault(t, "@i[0] = 1;", api.ErrName)
	wantBodyFault(t, "@b[0] = 1;", api.ErrName)
	wantBodyFault(t, "a[@a] = 1;", api.ErrName)
	wantBodyFault(t, "print a[@a];", api.ErrName)
	wantBodyFault(t, "print @q;", api.ErrName)
	wantBodyFault(t, "print @q[0];", api.ErrName)
	wantBodyFault(t, "@q = 1;", api.ErrName)
	wantBodyFault(t, "@q[0] = 1;", api.ErrName)
}

func TestMain(t *testing.T) {
	wantFault(t, "@func f() { }", api.ErrNone)
	wantFault(t, "@ # a remark\nfunc f() { } func main() { }", api.ErrNone)
	wantFault(t, "@func mai() { }", api.ErrNone)
	wantFault(t, "@func main(x) { }", api.ErrType)
	wantFault(t, "@func main() int { }", api.ErrType)
	wantFault(t, " # a remark\n@func main(x) int { } func f() { }", api.ErrType)
}
