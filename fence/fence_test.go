package fence_test

import (
	"fmt"
	"reflect"
	"strings"
	"testing"

	"rewind/api"
	"rewind/check"
	"rewind/fence"
	"rewind/flow"
	"rewind/syntax"
)

const exit = -1

// graphOf: the flow of a text's program, which Check must find right.
func graphOf(t *testing.T, text string) flow.Graph {
	t.Helper()
	p, at, e := syntax.Parse(text)
	if e != api.OK {
		t.Fatalf("Parse(%.2000q): %d, %d, want a program", text, at, e)
	}
	if _, at, e := check.Check(p); e != api.OK {
		t.Fatalf("Check of %.2000q: %d, %d, want a right program", text, at, e)
	}
	return flow.Of(p)
}

func inMain(body string) string { return "func main() { " + body + " }" }

// wantNext: the next fences of a text's statements, in the order of their places (those of a block ahead of what the block stands in).
func wantNext(t *testing.T, text, want string) {
	t.Helper()
	if got := fmt.Sprint(fence.Next(graphOf(t, text))); got != want {
		t.Errorf("P8.1: Next of %q: %s, want %s", text, got, want)
	}
}

func TestExample(t *testing.T) {
	// var x, var b, x = 1, the if, x = 2
	g := graphOf(t, inMain("var x = 0; var b = true; if b { x = 1; } x = 2;"))
	next := fence.Next(g)
	if next[3] != 4 || next[2] != 4 {
		t.Errorf("P8.1: the next fences of the if and of x = 1: %d, %d, want 4", next[3], next[2])
	}
}

func TestEachOtherStatement(t *testing.T) {
	wantNext(t, inMain(""), "[]")
	for _, s := range []string{"var x = 1;", "var a[3];", "print 1;", "main();", "return;"} {
		wantNext(t, inMain(s), "[-1]")
		wantNext(t, inMain("print 2; "+s), "[1 -1]")
	}
	wantNext(t, inMain("var x = 1; var a[3]; x = 2; a[0] = x; print x; main();"), "[1 2 3 4 5 -1]")
}

func TestIf(t *testing.T) {
	for body, want := range map[string]string{
		"if true { }":                                                "[-1]",
		"if true { } print 1;":                                       "[1 -1]",
		"if true { } else { }":                                       "[-1]",
		"if true { print 1; }":                                       "[-1 -1]",
		"if true { print 1; } print 2;":                              "[2 2 -1]",
		"if true { print 1; print 2; } print 3;":                     "[1 3 3 -1]",
		"if true { } else { print 1; } print 2;":                     "[2 2 -1]",
		"if true { print 1; } else { print 2; }":                     "[-1 -1 -1]",
		"if true { print 1; } else { print 2; } print 3;":            "[3 3 3 -1]",
		"if true { print 1; } else if true { print 2; } print 3;":    "[4 4 4 4 -1]",
		"if true { if true { print 1; } print 2; } print 3;":         "[2 2 4 4 -1]",
		"if true { if true { } } else { if true { } print 1; }":      "[-1 2 -1 -1]",
		"if true { return; } print 1;":                               "[-1 -1 -1]",
		"if true { return; } else { print 1; } print 2;":             "[-1 3 -1 -1]",
		"if true { return; } else { return; } print 1; print 2;":     "[-1 -1 -1 4 -1]",
		"if true { if true { return; } print 1; } print 2; print 3;": "[-1 -1 4 -1 5 -1]",
	} {
		wantNext(t, inMain(body), want)
	}
}

// A while fences what is in it, but where a jump leads out.
func TestWhile(t *testing.T) {
	for body, want := range map[string]string{
		"while true { }":                                   "[-1]",
		"while true { } print 1;":                          "[1 -1]",
		"while true { print 1; }":                          "[1 -1]",
		"while true { print 1; print 2; } print 3;":        "[1 2 3 -1]",
		"while true { while true { } }":                    "[1 -1]",
		"while true { while true { print 1; } }":           "[1 2 -1]",
		"while true { if true { print 1; } }":              "[2 2 -1]",
		"while true { if true { } else { } } print 1;":     "[1 2 -1]",
		"while true { } while true { }":                    "[1 -1]",
		"if true { while true { } } print 1;":              "[2 2 -1]",
		"while true { if true { } print 1; } print 2;":     "[1 2 3 -1]",
		"print 1; while true { main(); print 2; } main();": "[3 2 3 4 -1]",
	} {
		wantNext(t, inMain(body), want)
	}
}

func TestJumps(t *testing.T) {
	for body, want := range map[string]string{
		"while true { break; }":                                                "[-1 -1]",
		"while true { break; } print 1;":                                       "[2 2 -1]",
		"while true { continue; } print 1;":                                    "[1 2 -1]",
		"while true { return; } print 1;":                                      "[-1 -1 -1]",
		"return; print 1;":                                                     "[-1 -1]",
		"while true { break; print 1; } print 2;":                              "[3 2 3 -1]",
		"while true { continue; print 1; } print 2;":                           "[2 2 3 -1]",
		"while true { if true { break; } print 1; } print 2;":                  "[4 4 3 4 -1]",
		"while true { if true { continue; } print 1; } print 2;":               "[3 3 3 4 -1]",
		"while true { if true { return; } print 1; } print 2;":                 "[-1 -1 3 -1 -1]",
		"while true { while true { break; } print 1; } print 2;":               "[2 2 3 4 -1]",
		"while true { while true { if true { return; } } }":                    "[-1 -1 -1 -1]",
		"while true { if true { break; } else { continue; } }":                 "[-1 3 -1 -1]",
		"while true { if true { break; } else { return; } } print 1;":          "[4 -1 -1 -1 -1]",
		"while true { if true { while true { if true { break; } } } } main();": "[4 4 4 4 5 -1]",
		"while true { if true { break; } if true { return; } } print 1;":       "[5 -1 -1 -1 -1 -1]",
	} {
		wantNext(t, inMain(body), want)
	}
}

// What can't be reached has its ways, and its fences, too.
func TestNeverReached(t *testing.T) {
	wantNext(t, inMain("return; if true { print 1; } print 2;"), "[-1 3 3 -1]")
	wantNext(t, inMain("while true { break; if true { continue; } } print 1;"), "[4 3 3 4 -1]")
}

func TestFunctions(t *testing.T) {
	wantNext(t, "func main() { } func f() { } func g() int { }", "[]")
	wantNext(t, "func main() { print 1; } func f() { print 2; }", "[-1 -1]")
	wantNext(t, "func main() { f(); print 1; } func f() { print 2; main(); } func g(x) int { if true { return x; } print g(x); }", "[1 -1 3 -1 -1 -1 -1]")
}

const ways = "func main() { while true { if true { break; } print 1; } print 2; } func f() { return; while true { } if true { } print 3; }"

// its places
const (
	inBreak = iota
	inIf
	inPrint
	inWhile
	inLast
	fReturn
	fWhile
	fIf
	fPrint
)

// fences: all that fence each of these, and of the exit itself.
var fences = map[int][]int{
	inBreak: {inBreak, inLast, exit},
	inIf:    {inIf, inLast, exit},
	inPrint: {inPrint, inWhile, inLast, exit},
	inWhile: {inWhile, inLast, exit},
	inLast:  {inLast, exit},
	fReturn: {fReturn, exit},
	fWhile:  {fWhile, fIf, fPrint, exit},
	fIf:     {fIf, fPrint, exit},
	fPrint:  {fPrint, exit},
	exit:    {exit},
	-2:      nil,
	9:       nil,
}

func TestAll(t *testing.T) {
	g := graphOf(t, ways)
	for at, want := range fences {
		if got := fence.All(g, at); !reflect.DeepEqual(got, want) {
			t.Errorf("P8.1: All of %d: %d, want %d", at, got, want)
		}
	}
}

func has(l []int, a int) bool {
	for _, x := range l {
		if x == a {
			return true
		}
	}
	return false
}

func TestFences(t *testing.T) {
	g := graphOf(t, ways)
	for at, l := range fences {
		for a := -3; a < 12; a++ {
			if got := fence.Fences(g, a, at); got != has(l, a) {
				t.Errorf("P8.1: Fences of %d, %d: %t", a, at, got)
			}
		}
	}
}

func TestMeet(t *testing.T) {
	g := graphOf(t, ways)
	for a, l := range fences {
		for b, other := range fences {
			want := exit
			for i := len(l) - 1; i >= 0; i-- {
				if has(other, l[i]) {
					want = l[i]
				}
			}
			if got := fence.Meet(g, a, b); got != want {
				t.Errorf("P8.1: Meet of %d, %d: %d, want %d", a, b, got, want)
			}
		}
	}
	for _, x := range [][3]int{{inBreak, inPrint, inLast}, {inPrint, inIf, inLast}, {inPrint, inWhile, inWhile}, {inWhile, inPrint, inWhile}, {inIf, inIf, inIf}, {inIf, fIf, exit}, {fReturn, fPrint, exit}, {fWhile, fPrint, fPrint}} {
		if got := fence.Meet(g, x[0], x[1]); got != x[2] {
			t.Errorf("P8.1: Meet of %d, %d: %d, want %d", x[0], x[1], got, x[2])
		}
	}
}

func TestAsOftenAsOneLikes(t *testing.T) {
	g := graphOf(t, ways)
	next, all := fence.Next(g), fence.All(g, inPrint)
	for range 20 {
		h := graphOf(t, ways)
		if !reflect.DeepEqual(fence.Next(g), next) || !reflect.DeepEqual(fence.Next(h), next) || !reflect.DeepEqual(fence.All(g, inPrint), all) {
			t.Fatal("P8.1: a call answers otherwise the next time")
		}
		if !fence.Fences(g, inWhile, inPrint) || fence.Fences(g, inWhile, inIf) || fence.Meet(g, inPrint, inIf) != inLast {
			t.Fatal("P8.1: a call answers otherwise the next time")
		}
	}
}

// README.md's example.
func TestReadme(t *testing.T) {
	g := graphOf(t, "func main() { var b = true; if b { print 1; } print 2; }")
	got := fmt.Sprint(fence.Next(g), fence.All(g, 1), fence.Fences(g, 3, 1), fence.Fences(g, 1, 2), fence.Meet(g, 1, 2))
	if got != "[2 3 3 -1] [1 3 -1] true false 3" {
		t.Errorf("P8.1: README's example: %s", got)
	}
}

func TestMostStatements(t *testing.T) {
	const n = api.MaxStates
	g := graphOf(t, inMain(strings.Repeat("print 1; ", n)))
	for at, next := range fence.Next(g) {
		if want := (at+2)%(n+1) - 1; next != want {
			t.Errorf("P8.1: the next fence of %d: %d, want %d", at, next, want)
		}
	}
	if l := fence.All(g, 0); len(l) != n+1 || l[n] != exit || l[n-1] != n-1 {
		t.Errorf("P8.1: All of the first has %d", len(l))
	}
	if !fence.Fences(g, n-1, 0) || fence.Fences(g, 0, n-1) || fence.Meet(g, 0, n-1) != n-1 || fence.Meet(g, n-1, 0) != n-1 {
		t.Error("P8.1: Fences, Meet of the first and the last")
	}
	h := graphOf(t, inMain("while true { "+strings.Repeat("if true { break; } ", n/2-1)+"} print 1;"))
	for at, next := range fence.Next(h)[:n-1] {
		if next != n-1 {
			t.Errorf("P8.1: the next fence of %d: %d, want %d", at, next, n-1)
		}
	}
}

func TestDeepest(t *testing.T) {
	deep := api.MaxDepth - 1
	// The innermost while has the place 1, behind the break in it; each other one is 1 more than the one in it.
	next := fence.Next(graphOf(t, inMain(strings.Repeat("while true { ", deep)+"break;"+strings.Repeat(" }", deep))))
	for at := 1; at < deep; at++ {
		if next[at] != at+1 {
			t.Errorf("P8.1: the next fence of %d: %d, want %d", at, next[at], at+1)
		}
	}
	if next[0] != 2 || next[deep] != exit {
		t.Errorf("P8.1: the next fences of the innermost break and the outermost while: %d, %d", next[0], next[deep])
	}
	for at, next := range fence.Next(graphOf(t, inMain(strings.Repeat("if true { ", deep)+"return;"+strings.Repeat(" }", deep)+" print 1;"))) {
		if next != exit {
			t.Errorf("P8.1: the next fence of %d: %d, want the exit", at, next)
		}
	}
}
