package make_test

import (
	"strings"
	"testing"

	"rewind/api"
)

// ordinary: programs that have all kinds of statements and expressions.
var ordinary = []string{
	"func main() { }",
	"func main() { var x = 1; while x < 3 { if x == 2 { break; } x = x + f(x); continue; } print x; }\nfunc f(n) int { if n > 0 && n < 9 || false { return n; } }",
	"func main() { var a[3]; a[0] = read; print -a[1]; print !true; g(); f(1); }\nfunc f(n) int { return n; }\nfunc g() { return; }",
	"func main() { var n = 0; while true { n = n + 1; if n % 2 == 0 { continue; } else if n > 8 { while true { if n < 12 { n = n + 5; } else { break; } } break; } print n; } print n; }",
	"func main() { print fib(9); }\nfunc fib(n) int { if n < 2 { return n; } return fib(n - 1) + fib(n - 2); }",
	"func main() { var a[5]; var i = 0; while i < 5 { a[i] = read; i = i + 1; } var j = 0; while j < 4 { i = 0; while i < 4 - j { if a[i] > a[i + 1] { var x = a[i]; a[i] = a[i + 1]; a[i + 1] = x; } i = i + 1; } j = j + 1; } i = 0; while i < 5 { print a[i]; i = i + 1; } }",
}

// wantRun: what a program prints, and how it ends; the code and the walker do the same.
func wantRun(t *testing.T, text string, steps int, inputs []int, end api.Errno, out ...string) {
	t.Helper()
	p, info := right(t, text)
	want := walked(p, info, steps, inputs)
	got := ran(made(t, text), steps, inputs, map[int]int{})
	printed := strings.Join(strings.Fields(got.out.String()), " ")
	if got.end != end || printed != strings.Join(out, " ") {
		t.Errorf("P11.1: %s\nends with %d, and prints %s, want %d, %s", text, got.end, printed, end, out)
	}
	if !got.same(want) {
		t.Errorf("P11.1: %s\nthe code does\n%v %d\nwant\n%v %d", text, got.events, got.end, want.events, want.end)
	}
}

func wantOut(t *testing.T, body string, out ...string) {
	t.Helper()
	wantRun(t, "func main() { "+body+" }\nfunc say(n) int { print n; return n; }\nfunc none() int { }", 200, []int{7, 8, 9}, api.OK, out...)
}

func TestOrdinaryPrograms(t *testing.T) {
	outs := []string{"", "2", "0 false", "1 3 5 7 14", "34", "1 2 3 4 5"}
	for n, text := range ordinary {
		wantRun(t, text, 1000, []int{3, 5, 1, 4, 2}, api.OK, strings.Fields(outs[n])...)
	}
}

func TestIfs(t *testing.T) {
	wantOut(t, "if true { print 1; } print 2;", "1", "2")
	wantOut(t, "if false { print 1; } print 2;", "2")
	wantOut(t, "if true { print 1; } else { print 2; } print 3;", "1", "3")
	wantOut(t, "if false { print 1; } else { print 2; } print 3;", "2", "3")
	wantOut(t, "if true { } else { print 2; } print 3;", "3")
	wantOut(t, "if false { } else { print 2; } print 3;", "2", "3")
	wantOut(t, "if say(1) == 1 { } print 3;", "1", "3")
	wantOut(t, "if say(1) == 2 { } else { } print 3;", "1", "3")
	for n, want := range []string{"10", "20", "30", "40"} {
		first := []string{"0", "1", "2", "3"}[n]
		wantOut(t, "var x = "+first+"; if x == 0 { print 10; } else if x == 1 { print 20; } else if x == 2 { print 30; } else { print 40; } print 5;", want, "5")
	}
}

func TestWhiles(t *testing.T) {
	wantOut(t, "var x = 0; while x < 3 { x = x + 1; print x; } print 9;", "1", "2", "3", "9")
	wantOut(t, "while false { print 1; } print 9;", "9")
	wantOut(t, "var x = 0; while say(x) < 2 { x = x + 1; continue; print 8; } print 9;", "0", "1", "2", "9")
	wantOut(t, "while true { print 1; break; print 8; } print 9;", "1", "9")
	wantOut(t, "var x = 0; while x < 2 { x = x + 1; var y = 0; while true { y = y + 1; if y == 2 { continue; } if y == 4 { break; } print y; } if x == 1 { continue; } print 5; }", "1", "3", "1", "3", "5")
	wantOut(t, "while true { while true { while true { break; } print 1; break; } print 2; break; } print 3;", "1", "2", "3")
	wantOut(t, "while true { if true { if false { } else { break; } } } print 3;", "3")
	wantRun(t, "func main() { while true { } }", 5, nil, api.ErrSpent)
	wantRun(t, "func main() { while true { continue; } }", 6, nil, api.ErrSpent)
}

// What a while begins with comes each time, and so does an array.
func TestWhatComesAgain(t *testing.T) {
	wantOut(t, "var n = 0; while n < 2 { var a[2]; print a[1]; a[1] = 5; print a[1]; n = n + 1; }", "0", "5", "0", "5")
	wantOut(t, "var n = 0; while n < 3 { if n > 0 { var x = read; print x; } n = n + 1; }", "7", "8")
}

func TestSecondPartsThatAreLeftOut(t *testing.T) {
	wantOut(t, "print say(1) == 1 && say(2) == 2;", "1", "2", "true")
	wantOut(t, "print say(1) == 1 && say(2) == 3;", "1", "2", "false")
	wantOut(t, "print say(1) == 2 && say(2) == 2;", "1", "false")
	wantOut(t, "print say(1) == 1 || say(2) == 2;", "1", "true")
	wantOut(t, "print say(1) == 2 || say(2) == 2;", "1", "2", "true")
	wantOut(t, "print say(1) == 2 || say(2) == 3;", "1", "2", "false")
	wantOut(t, "print say(1) == 2 && say(2) == 2 || say(3) == 3 && say(4) == 5 || say(6) == 6;", "1", "3", "4", "6", "true")
	wantOut(t, "print say(0) == (say(1) + say(2)) * 0;", "0", "1", "2", "true")
	wantOut(t, "print (false || true) == (true && true);", "true")
	wantOut(t, "while say(1) == 1 && read < 9 { } print 5;", "1", "1", "1", "5")
}

func TestFromTheLeft(t *testing.T) {
	wantOut(t, "print read - read * read;", "-65")
	wantOut(t, "print say(1) + say(2) * say(3) - say(4);", "1", "2", "3", "4", "3")
	wantOut(t, "var a[9]; a[read] = read; print a[7];", "8")
	wantOut(t, "var a[9]; a[say(1)] = say(2);", "1", "2")
	wantRun(t, "func main() { print f(read, read, read); }\nfunc f(a, b, c) int { return a * 100 + b * 10 + c; }", 9, []int{1, 2, 3}, api.OK, "123")
}

func TestCallsAndReturns(t *testing.T) {
	wantOut(t, "say(1); say(say(2) + 1); none();", "1", "2", "3")
	wantOut(t, "print none() + 5;", "5")
	wantOut(t, "print 1; return; print 2;", "1")
	wantOut(t, "while true { if true { return; } } print 2;")
	wantRun(t, "func main() { print f(1); print f(5); }\nfunc f(n) int { if n < 3 { return n * 10; } print n; }", 99, nil, api.OK, "10", "5", "0")
	wantRun(t, "func main() { f(); }\nfunc f() { f(); }", 999, nil, api.ErrStack)
	wantRun(t, "func main() { f(63); f(64); }\nfunc f(n) { print n; if n > 1 { f(n - 1); } }", 999, nil, api.ErrStack, strings.Fields("63 62 61 60 59 58 57 56 55 54 53 52 51 50 49 48 47 46 45 44 43 42 41 40 39 38 37 36 35 34 33 32 31 30 29 28 27 26 25 24 23 22 21 20 19 18 17 16 15 14 13 12 11 10 9 8 7 6 5 4 3 2 1 64 63 62 61 60 59 58 57 56 55 54 53 52 51 50 49 48 47 46 45 44 43 42 41 40 39 38 37 36 35 34 33 32 31 30 29 28 27 26 25 24 23 22 21 20 19 18 17 16 15 14 13 12 11 10 9 8 7 6 5 4 3 2")...)
}

func TestProgramsThatEndWithAnError(t *testing.T) {
	wantRun(t, "func main() { print 1 / 0; }", 9, nil, api.ErrZero)
	wantRun(t, "func main() { print 1; print read % (1 - 1); }", 9, []int{5}, api.ErrZero, "1")
	wantRun(t, "func main() { print read; print read; }", 9, []int{5}, api.ErrInput, "5")
	wantRun(t, "func main() { var a[2]; a[2] = 1; }", 9, nil, api.ErrIndex)
	wantRun(t, "func main() { var a[2]; print a[-1]; }", 9, nil, api.ErrIndex)
	wantRun(t, "func main() { var a[2]; a[5] = read; }", 9, nil, api.ErrInput)
	wantRun(t, "func main() { var a[2]; a[read] = 1 / 0; }", 9, []int{5}, api.ErrZero)
	wantRun(t, "func main() { print 1; print 2; print 3; }", 2, nil, api.ErrSpent, "1", "2")
	wantRun(t, "func main() { print 1; }", 0, nil, api.ErrSpent)
	wantRun(t, "func main() { }", 0, nil, api.OK)
}
