package mach_test

import (
	"math"
	"strconv"
	"testing"

	"rewind/api"
	"rewind/world"
)

// atTheEdges: ints where adding, or dividing, may go wrong.
var atTheEdges = []int{0, 1, -1, 2, -2, 3, 7, -7, 10, 1 << 31, -1 << 31, 1 << 32, 1 << 62, -1 << 62, math.MaxInt, math.MaxInt - 1, math.MinInt, math.MinInt + 1}

// wantOfTwo: what print of an expression of a and b prints.
func wantOfTwo(t *testing.T, expr string, a, b int, want string) {
	t.Helper()
	m := started(t, built(t, "func main() { var a = read; var b = read; print "+expr+"; }"), 9, a, b)
	for m.Next() {
	}
	if _, e := m.Ended(); e != api.OK || m.Out() != want+"\n" {
		t.Errorf("P13.1: %s of %d, %d: %s, want %s", expr, a, b, ending(m), want)
	}
}

func TestIntsGoAround(t *testing.T) {
	for _, a := range atTheEdges {
		wantOfTwo(t, "-a", a, 0, strconv.Itoa(-a))
		wantOfTwo(t, "--a", a, 0, strconv.Itoa(a))
		for _, b := range atTheEdges {
			wantOfTwo(t, "a + b", a, b, strconv.Itoa(a+b))
			wantOfTwo(t, "a - b", a, b, strconv.Itoa(a-b))
			wantOfTwo(t, "a * b", a, b, strconv.Itoa(a*b))
			if b != 0 {
				wantOfTwo(t, "a / b", a, b, strconv.Itoa(a/b))
				wantOfTwo(t, "a % b", a, b, strconv.Itoa(a%b))
			}
		}
	}
	wantOfTwo(t, "a + b", math.MaxInt, 1, "-9223372036854775808")
	wantOfTwo(t, "a - b", math.MinInt, 1, "9223372036854775807")
	wantOfTwo(t, "a * b", math.MinInt, -1, "-9223372036854775808")
	wantOfTwo(t, "a * b", 1<<32, 1<<32, "0")
	wantOfTwo(t, "-a", math.MinInt, 0, "-9223372036854775808")
	wantOfTwo(t, "a / b", math.MinInt, -1, "-9223372036854775808")
	wantOfTwo(t, "a % b", math.MinInt, -1, "0")
}

// Both go toward 0.
func TestDivided(t *testing.T) {
	for _, x := range []struct{ a, b, quotient, rest int }{
		{7, 2, 3, 1}, {-7, 2, -3, -1}, {7, -2, -3, 1}, {-7, -2, 3, -1}, {0, 5, 0, 0}, {1, 5, 0, 1}, {-1, 5, 0, -1}, {6, 3, 2, 0}, {-6, 3, -2, 0}, {5, 1, 5, 0}, {5, -1, -5, 0},
		{math.MinInt, 1, math.MinInt, 0}, {math.MinInt, math.MinInt, 1, 0}, {math.MaxInt, math.MinInt, 0, math.MaxInt}, {math.MinInt, math.MaxInt, -1, -1},
	} {
		wantOfTwo(t, "a / b", x.a, x.b, strconv.Itoa(x.quotient))
		wantOfTwo(t, "a % b", x.a, x.b, strconv.Itoa(x.rest))
	}
}

func TestCompared(t *testing.T) {
	for _, a := range atTheEdges {
		for _, b := range atTheEdges {
			wantOfTwo(t, "a < b", a, b, strconv.FormatBool(a < b))
			wantOfTwo(t, "a <= b", a, b, strconv.FormatBool(a <= b))
			wantOfTwo(t, "a > b", a, b, strconv.FormatBool(a > b))
			wantOfTwo(t, "a >= b", a, b, strconv.FormatBool(a >= b))
			wantOfTwo(t, "a == b", a, b, strconv.FormatBool(a == b))
			wantOfTwo(t, "a != b", a, b, strconv.FormatBool(a != b))
		}
	}
}

func TestBools(t *testing.T) {
	for n := range 4 {
		a, b := n%2, n/2
		wantOfTwo(t, "a == 1 && b == 1", a, b, strconv.FormatBool(a == 1 && b == 1))
		wantOfTwo(t, "a == 1 || b == 1", a, b, strconv.FormatBool(a == 1 || b == 1))
		wantOfTwo(t, "(a == 1) == (b == 1)", a, b, strconv.FormatBool(a == b))
		wantOfTwo(t, "(a == 1) != (b == 1)", a, b, strconv.FormatBool(a != b))
		wantOfTwo(t, "!(a == 1)", a, b, strconv.FormatBool(a != 1))
		wantOfTwo(t, "!!(a == 1)", a, b, strconv.FormatBool(a == 1))
	}
	wantPrinted(t, "var b = true; print b; b = !b; print b; b = 1 < 2; print b; print true; print false;", "true", "false", "true", "true", "false")
}

func TestSecondPartsThatAreLeftOut(t *testing.T) {
	wantPrinted(t, "print say(1) == 1 && say(2) == 2;", "1", "2", "true")
	wantPrinted(t, "print say(1) == 1 && say(2) == 3;", "1", "2", "false")
	wantPrinted(t, "print say(1) == 2 && say(2) == 2;", "1", "false")
	wantPrinted(t, "print say(1) == 1 || say(2) == 2;", "1", "true")
	wantPrinted(t, "print say(1) == 2 || say(2) == 2;", "1", "2", "true")
	wantPrinted(t, "print say(1) == 2 || say(2) == 3;", "1", "2", "false")
	wantPrinted(t, "print say(1) == 2 && say(2) == 2 || say(3) == 3 && say(4) == 5 || say(6) == 6;", "1", "3", "4", "6", "true")
	wantPrinted(t, "print false && 1 / 0 == 1; print true || 1 / 0 == 1; var a[1]; print false && a[1] == 0; if true || a[-1] == 0 { print 5; }", "false", "true", "false", "5")
	wantPrinted(t, "while say(1) == 1 && read < 9 { } print 5;", "1", "1", "1", "5")
}

func TestFromTheLeft(t *testing.T) {
	wantPrinted(t, "print read - read * read;", "-65")
	wantPrinted(t, "print say(1) + say(2) * say(3) - say(4);", "1", "2", "3", "4", "3")
	wantPrinted(t, "var a[9]; a[read] = read; print a[7];", "8")
	wantPrinted(t, "var a[9]; a[say(1)] = say(2);", "1", "2")
	wantEnd(t, "func main() { print f(read, read, read); }\nfunc f(a, b, c) int { return a * 100 + b * 10 + c; }", world.World{Steps: 9, Inputs: []int{1, 2, 3}}, api.OK, 2, 3, "123")
}

func TestReads(t *testing.T) {
	wantEnd(t, "func main() { print read; print read; var x = read; print x; }", world.World{Steps: 9, Inputs: []int{math.MinInt, 0, math.MaxInt, 5}}, api.OK, 4, 3, "-9223372036854775808", "0", "9223372036854775807")
}

func TestCallsAndReturns(t *testing.T) {
	wantPrinted(t, "say(1); say(say(2) + 1); none(); nothing();", "1", "2", "3")
	wantPrinted(t, "print none(); print none() + 5; print 1 - none() * say(3);", "0", "5", "3", "1")
	wantPrinted(t, "print 1; return; print 2;", "1")
	wantPrinted(t, "while true { if true { return; } } print 2;")
	wantEnd(t, "func main() { print f(1); print f(5); }\nfunc f(n) int { if n < 3 { return n * 10; } print n; }", world.World{Steps: 99}, api.OK, 6, 0, "10", "5", "0")
}

// Each call has names of its own.
func TestNamesOfCalls(t *testing.T) {
	wantEnd(t, "func main() { var x = 5; var a[2]; a[1] = 6; print f(3); print x; print a[1]; }\nfunc f(n) int { var a[3]; var x = n; a[1] = n; if n > 0 { f(n - 1); } print x; print n; print a[1]; print a[2]; return x; }",
		world.World{Steps: 99}, api.OK, 45, 0, "0", "0", "0", "0", "1", "1", "1", "0", "2", "2", "2", "0", "3", "3", "3", "0", "3", "5", "6")
}

func TestArrays(t *testing.T) {
	wantPrinted(t, "var a[3]; print a[0]; print a[2]; a[0] = 4; a[2] = a[0] + 1; a[1] = a[a[0] - 3] - 2; print a[0]; print a[1]; print a[2];", "0", "0", "4", "-2", "5")
	wantPrinted(t, "var a[64]; a[63] = 5; print a[63] + a[0]; var b[1]; b[0] = b[0] + 2; print b[0]; print a[63];", "5", "2", "5")
	// Made anew each time that it comes.
	wantPrinted(t, "var n = 0; while n < 2 { var a[2]; print a[1]; a[1] = 5; print a[1]; n = n + 1; }", "0", "5", "0", "5")
	wantPrinted(t, "var n = 0; var a[2]; while n < 2 { print a[1]; a[1] = 5; n = n + 1; }", "0", "5")
	wantPrinted(t, "var a[2]; a[1] = 1; if true { var a[1]; a[0] = 9; print a[0]; } print a[0]; print a[1];", "9", "0", "1")
}
