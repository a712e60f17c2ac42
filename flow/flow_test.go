package flow_test

import (
	"fmt"
	"reflect"
	"strings"
	"testing"

	"rewind/api"
	"rewind/check"
	"rewind/flow"
	"rewind/syntax"
)

// parsed: the program of a text, which Check must find right.
func parsed(t *testing.T, text string) api.Tree {
	t.Helper()
	p, at, e := syntax.Parse(text)
	if e != api.OK {
		t.Fatalf("Parse(%.2000q): %d, %d, want a program", text, at, e)
	}
	if _, at, e := check.Check(p); e != api.OK {
		t.Fatalf("Check of %.2000q: %d, %d, want a right program", text, at, e)
	}
	return p
}

func graphOf(t *testing.T, text string) flow.Graph {
	t.Helper()
	return flow.Of(parsed(t, text))
}

func inMain(body string) string { return "func main() { " + body + " }" }

// wantNext: First, and the ways on of main's statements, in the order of their places.
func wantNext(t *testing.T, text, first, next string) {
	t.Helper()
	g := graphOf(t, text)
	if got := fmt.Sprint(g.First); got != first {
		t.Errorf("P7.1: First of %q: %s, want %s", text, got, first)
	}
	if got := fmt.Sprint(g.Next); got != next {
		t.Errorf("P7.1: Next of %q: %s, want %s", text, got, next)
	}
}

func TestExample(t *testing.T) {
	// var x, var b, x = 1, the while, x = 2
	wantNext(t, inMain("var x = 0; var b = true; while b { x = 1; } x = 2;"), "[0]", "[[1] [3] [3] [2 4] [-1]]")
}

// Statements have their places as soon as they are whole: those of a block ahead of what the block stands in.
func TestEachOtherStatement(t *testing.T) {
	wantNext(t, inMain(""), "[-1]", "[]")
	for _, s := range []string{"var x = 1;", "var a[3];", "print 1;", "main();"} {
		wantNext(t, inMain(s), "[0]", "[[-1]]")
		wantNext(t, inMain(s+" print 2;"), "[0]", "[[1] [-1]]")
		wantNext(t, inMain("while true { "+s+" }"), "[1]", "[[1] [0 -1]]")
		wantNext(t, inMain("if true { "+s+" } print 2;"), "[1]", "[[2] [0 2] [-1]]")
	}
	wantNext(t, inMain("var x = 1; var a[3]; x = 2; a[0] = x; print x; main();"), "[0]", "[[1] [2] [3] [4] [5] [-1]]")
}

func TestIf(t *testing.T) {
	for body, want := range map[string]string{
		"if true { }":                                            "[[-1 -1]]",
		"if true { } print 1;":                                   "[[1 1] [-1]]",
		"if true { } else { }":                                   "[[-1 -1]]",
		"if true { print 1; } print 2;":                          "[[2] [0 2] [-1]]",
		"if true { print 1; print 2; } print 3;":                 "[[1] [3] [0 3] [-1]]",
		"if true { } else { print 1; } print 2;":                 "[[2] [2 0] [-1]]",
		"if true { print 1; } else { print 2; }":                 "[[-1] [-1] [0 1]]",
		"if true { print 1; } else { print 2; } print 3;":        "[[3] [3] [0 1] [-1]]",
		"if true { print 1; } else if true { print 2; }":         "[[-1] [-1] [1 -1] [0 2]]",
		"if true { } else if true { } else { print 1; } main();": "[[3] [3 0] [3 1] [-1]]",
		"if true { if true { print 1; } } print 2;":              "[[3] [0 3] [1 3] [-1]]",
		"if true { if true { } print 1; } else { }":              "[[1 1] [-1] [0 -1]]",
	} {
		p := parsed(t, inMain(body))
		wantNext(t, inMain(body), fmt.Sprint([]int{p.Funcs[0].Body[0]}), want)
	}
}

func TestWhile(t *testing.T) {
	for body, want := range map[string]string{
		"while true { }":                               "[[0 -1]]",
		"while true { } print 1;":                      "[[0 1] [-1]]",
		"while true { print 1; }":                      "[[1] [0 -1]]",
		"while true { print 1; print 2; } print 3;":    "[[1] [2] [0 3] [-1]]",
		"while true { while true { } }":                "[[0 1] [0 -1]]",
		"while true { while true { print 1; } }":       "[[1] [0 2] [1 -1]]",
		"while true { while true { } print 1; }":       "[[0 1] [2] [0 -1]]",
		"while true { if true { print 1; } }":          "[[2] [0 2] [1 -1]]",
		"while true { if true { } }":                   "[[1 1] [0 -1]]",
		"while true { if true { } else { print 1; } }": "[[2] [2 0] [1 -1]]",
		"if true { while true { } } print 1;":          "[[0 2] [0 2] [-1]]",
		"while true { } while true { }":                "[[0 1] [1 -1]]",
	} {
		p := parsed(t, inMain(body))
		wantNext(t, inMain(body), fmt.Sprint([]int{p.Funcs[0].Body[0]}), want)
	}
}

func TestJumps(t *testing.T) {
	for body, want := range map[string]string{
		"while true { break; }":                                        "[[-1] [0 -1]]",
		"while true { break; } print 1;":                               "[[2] [0 2] [-1]]",
		"while true { continue; } print 1;":                            "[[1] [0 2] [-1]]",
		"while true { return; } print 1;":                              "[[-1] [0 2] [-1]]",
		"return; print 1;":                                             "[[-1] [-1]]",
		"while true { break; print 1; } print 2;":                      "[[3] [2] [0 3] [-1]]",
		"while true { continue; print 1; } print 2;":                   "[[2] [2] [0 3] [-1]]",
		"while true { while true { break; } }":                         "[[2] [0 2] [1 -1]]",
		"while true { while true { break; } print 1; }":                "[[2] [0 2] [3] [1 -1]]",
		"while true { while true { continue; } break; } print 1;":      "[[1] [0 2] [4] [1 4] [-1]]",
		"while true { while true { } continue; print 1; }":             "[[0 1] [3] [3] [0 -1]]",
		"while true { if true { break; } print 1; } print 2;":          "[[4] [0 2] [3] [1 4] [-1]]",
		"while true { if true { } else { continue; } print 1; }":       "[[3] [2 0] [3] [1 -1]]",
		"if true { while true { break; } } else { return; } print 1;":  "[[4] [0 4] [-1] [1 2] [-1]]",
		"while true { if true { while true { if true { break; } } } }": "[[4] [0 2] [1 4] [2 4] [3 -1]]",
		"while true { } if true { return; } print 1;":                  "[[0 2] [-1] [1 3] [-1]]",
	} {
		p := parsed(t, inMain(body))
		wantNext(t, inMain(body), fmt.Sprint([]int{p.Funcs[0].Body[0]}), want)
	}
}

func TestFunctions(t *testing.T) {
	wantNext(t, "func main() { } func f() { } func g() int { }", "[-1 -1 -1]", "[]")
	wantNext(t, "func main() { f(); print 1; } func f() { print 2; } func g(x) int { return x; print g(x); }", "[0 2 3]", "[[1] [-1] [-1] [-1] [-1]]")
	wantNext(t, "func main() { while true { f(1); } } func e() { } func f(n) int { while true { return n; } }", "[1 -1 3]", "[[1] [0 -1] [-1] [2 -1]]")
}

const ways = "func main() { while true { if true { break; } print 1; } print 2; } func f() { return; while true { } if true { } print 3; }"

// its places
const (
	inBreak = iota
	inIf
	inPrint
	inWhile
	inLast
	fReturn
	fWhile
	fIf
	fPrint
	exit = -1
)

func TestReach(t *testing.T) {
	g := graphOf(t, ways)
	for from, want := range map[int][]int{
		inBreak: {inBreak, inLast},
		inIf:    {inBreak, inIf, inPrint, inWhile, inLast},
		inPrint: {inBreak, inIf, inPrint, inWhile, inLast},
		inWhile: {inBreak, inIf, inPrint, inWhile, inLast},
		inLast:  {inLast},
		fReturn: {fReturn},
		fWhile:  {fWhile, fIf, fPrint},
		fIf:     {fIf, fPrint},
		fPrint:  {fPrint},
		exit:    nil,
		-2:      nil,
		9:       nil,
	} {
		if got := g.Reach(from); !reflect.DeepEqual(got, want) {
			t.Errorf("P7.1: Reach(%d): %d, want %d", from, got, want)
		}
	}
}

func TestBack(t *testing.T) {
	want := [][]int{inBreak: {inIf}, inIf: {inWhile}, inPrint: {inIf}, inWhile: {inPrint}, inLast: {inBreak, inWhile}, fReturn: nil, fWhile: {fWhile}, fIf: {fWhile}, fPrint: {fIf}}
	if got := graphOf(t, ways).Back(); !reflect.DeepEqual(got, want) {
		t.Errorf("P7.1: Back: %d, want %d", got, want)
	}
	if got := graphOf(t, inMain("")).Back(); len(got) != 0 {
		t.Errorf("P7.1: Back of no statements: %d", got)
	}
	// Both ways of the if, and of an if in it, lead to the print: each is there once.
	if got := fmt.Sprint(graphOf(t, inMain("if true { if true { } } else { } print 1;")).Back()); got != "[[1] [] [0 1]]" {
		t.Errorf("P7.1: Back: %s", got)
	}
	// Those that have the while as a way on stand ahead of it and behind it.
	if got := fmt.Sprint(graphOf(t, inMain("print 1; while true { continue; print 2; } print 3;")).Back()); got != "[[] [3] [] [0 1 2] [3]]" {
		t.Errorf("P7.1: Back: %s", got)
	}
}

func TestWay(t *testing.T) {
	g := graphOf(t, ways)
	inLoop := []int{inIf, inPrint, inWhile}
	for from, want := range map[int][]int{
		inBreak: {inLast, exit},
		inIf:    append([]int{inBreak, inLast, exit}, inLoop...),
		inPrint: append([]int{inBreak, inLast, exit}, inLoop...),
		inWhile: append([]int{inBreak, inLast, exit}, inLoop...),
		inLast:  {exit},
		fReturn: {exit},
		fWhile:  {fWhile, fIf, fPrint, exit},
		fIf:     {fPrint, exit},
		fPrint:  {exit},
		exit:    nil, // the exit has no ways on
		-2:      nil,
		9:       nil,
	} {
		there := map[int]int{}
		for _, to := range want {
			there[to]++
		}
		for to := -3; to < 12; to++ {
			if got := g.Way(from, to); got != (there[to] > 0) {
				t.Errorf("P7.1: Way(%d, %d): %t", from, to, got)
			}
		}
	}
}

func TestAsOftenAsOneLikes(t *testing.T) {
	g := graphOf(t, ways)
	reach, back, way := g.Reach(inIf), g.Back(), g.Way(inIf, inIf)
	for range 20 {
		if !reflect.DeepEqual(g.Reach(inIf), reach) || !reflect.DeepEqual(g.Back(), back) || g.Way(inIf, inIf) != way {
			t.Fatal("P7: a call answers otherwise the next time")
		}
		if h := graphOf(t, ways); !reflect.DeepEqual(h, g) {
			t.Fatal("P7: Of answers otherwise the next time")
		}
	}
}

// README.md's example.
func TestReadme(t *testing.T) {
	g := graphOf(t, "func main() { var b = true; while b { b = false; } print b; }")
	if got := fmt.Sprint(g.First, g.Next, g.Reach(1), g.Back()[2], g.Way(2, 2), g.Way(3, -1)); got != "[0] [[2] [2] [1 3] [-1]] [1 2 3] [0 1] true true" {
		t.Errorf("P7.1: README's example: %s", got)
	}
}

func TestMostStatements(t *testing.T) {
	g := graphOf(t, inMain(strings.Repeat("print 1; ", api.MaxStates)))
	if len(g.Next) != api.MaxStates {
		t.Fatalf("P7.1: %d statements", len(g.Next))
	}
	for at, next := range g.Next {
		want := at + 1
		if want == api.MaxStates {
			want = exit
		}
		if !reflect.DeepEqual(next, []int{want}) {
			t.Errorf("P7.1: Next of %d: %d", at, next)
		}
		if got := g.Reach(at); len(got) != api.MaxStates-at || got[0] != at {
			t.Errorf("P7.1: Reach(%d) has %d", at, len(got))
		}
	}
	if !g.Way(0, api.MaxStates-1) || g.Way(api.MaxStates-1, 0) || !g.Way(0, exit) {
		t.Error("P7.1: Way through all statements")
	}
	first, last := graphOf(t, inMain("while true { "+strings.Repeat("continue; ", api.MaxStates-1)+"}")), api.MaxStates-1
	if back := first.Back(); len(back[last]) != last || back[last][0] != 0 || len(back[0]) != 1 {
		t.Errorf("P7.1: Back of a while with %d continues", last)
	}
}

func TestDeepest(t *testing.T) {
	deep := api.MaxDepth - 1
	// The innermost while has the place 1, behind the break in it; each other one is 1 more than the one in it.
	g := graphOf(t, inMain(strings.Repeat("while true { ", deep)+"break;"+strings.Repeat(" }", deep)))
	for at := 1; at <= deep; at++ {
		behind := at + 1
		if at == deep {
			behind = exit
		}
		if want := []int{at - 1, behind}; !reflect.DeepEqual(g.Next[at], want) {
			t.Errorf("P7.1: Next of %d: %d, want %d", at, g.Next[at], want)
		}
	}
	if !reflect.DeepEqual(g.Next[0], []int{2}) {
		t.Errorf("P7.1: Next of the innermost break: %d", g.Next[0])
	}
	// What stands last in all of these ifs has the exit behind it.
	g = graphOf(t, inMain(strings.Repeat("if true { ", deep)+"print 1;"+strings.Repeat(" }", deep)))
	for at, next := range g.Next {
		if next[len(next)-1] != exit {
			t.Errorf("P7.1: Next of %d: %d", at, next)
		}
	}
}
