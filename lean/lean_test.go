package lean_test

import (
	"fmt"
	"reflect"
	"slices"
	"strings"
	"testing"

	"rewind/api"
	"rewind/check"
	"rewind/flow"
	"rewind/lean"
	"rewind/syntax"
)

const exit = -1

// parsed: a text's program, which Check must find right.
func parsed(t *testing.T, text string) api.Tree {
	t.Helper()
	p, at, e := syntax.Parse(text)
	if e != api.OK {
		t.Fatalf("Parse(%.2000q): %d, %d, want a program", text, at, e)
	}
	if _, at, e := check.Check(p); e != api.OK {
		t.Fatalf("Check of %.2000q: %d, %d, want a right program", text, at, e)
	}
	return p
}

func inMain(body string) string { return "func main() { " + body + " }" }

// wantOf: the leans of a text's statements, in the order of their places (those of a block ahead of what the block stands in).
func wantOf(t *testing.T, text, want string) {
	t.Helper()
	p := parsed(t, text)
	g := flow.Of(p)
	if got := fmt.Sprint(lean.Of(g)); got != want {
		t.Errorf("P9.1: Of %q: %s, want %s (by the words: %v)", text, got, want, leansByWords(g, choicesOf(p)))
	}
}

func wantFalls(t *testing.T, text, want string) {
	t.Helper()
	if got := fmt.Sprint(lean.Falls(parsed(t, text))); got != want {
		t.Errorf("P9.1: Falls of %q: %s, want %s", text, got, want)
	}
}

func TestExample(t *testing.T) {
	// var x, var b, x = 1, the while
	leans := lean.Of(flow.Of(parsed(t, inMain("var x = 0; var b = true; while b { x = 1; }"))))
	want := []lean.Lean{{At: 3, Way: 0}}
	if !reflect.DeepEqual(leans[2], want) || !reflect.DeepEqual(leans[3], want) {
		t.Errorf("P9.1: x = 1 leans on %v, the while on %v, want %v", leans[2], leans[3], want)
	}
}

func TestEachOtherStatement(t *testing.T) {
	wantOf(t, inMain(""), "[]")
	wantFalls(t, inMain(""), "[]")
	for _, s := range []string{"var x = 1;", "var a[3];", "print 1;", "main();", "return;"} {
		wantOf(t, inMain(s), "[[]]")
		wantOf(t, inMain("print 2; "+s+" print 3;"), "[[] [] []]")
		wantFalls(t, inMain(s), "[-1]")
		wantFalls(t, inMain("print 2; "+s+" print 3;"), "[1 2 -1]")
		wantOf(t, inMain("if true { "+s+" } "), "[[{1 0}] []]")
		wantFalls(t, inMain("while true { print 1; "+s+" } print 2;"), "[1 2 3 -1]")
	}
	wantFalls(t, inMain("var x = 1; var a[3]; x = 2; a[0] = x; print x; main();"), "[1 2 3 4 5 -1]")
}

func TestIf(t *testing.T) {
	for body, want := range map[string]string{
		"if true { }":                                             "[[]]",
		"if true { } print 1;":                                    "[[] []]",
		"if true { } else { } print 1;":                           "[[] []]",
		"if true { print 1; }":                                    "[[{1 0}] []]",
		"if true { print 1; } print 2;":                           "[[{1 0}] [] []]",
		"if true { print 1; print 2; } print 3;":                  "[[{2 0}] [{2 0}] [] []]",
		"if true { } else { print 1; } print 2;":                  "[[{1 1}] [] []]",
		"if true { print 1; } else { print 2; } print 3;":         "[[{2 0}] [{2 1}] [] []]",
		"if true { print 1; } else if true { print 2; } print 3;": "[[{3 0}] [{2 0}] [{3 1}] [] []]",
		"if true { if true { print 1; } print 2; } print 3;":      "[[{1 0}] [{3 0}] [{3 0}] [] []]",
		"if true { if true { } } else { if true { } print 1; }":   "[[{3 0}] [{3 1}] [{3 1}] []]",
		"if true { return; } print 1;":                            "[[{1 0}] [] [{1 1}]]",
		"if true { return; } else { print 1; } print 2;":          "[[{2 0}] [{2 1}] [] [{2 1}]]",
		"if true { return; } else { return; } print 1; print 2;":  "[[{2 0}] [{2 1}] [] [] []]",
		"if true { if true { return; } print 1; } print 2;":       "[[{1 0}] [{3 0}] [{1 1}] [] [{1 1} {3 1}]]",
		"if true { } else if true { return; } print 1; print 2;":  "[[{1 0}] [{2 1}] [] [{1 1} {2 0}] [{1 1} {2 0}]]",
	} {
		wantOf(t, inMain(body), want)
	}
}

// A while leans on its own way 0, as far as its statements come back to it.
func TestWhile(t *testing.T) {
	for body, want := range map[string]string{
		"while true { }":                               "[[{0 0}]]",
		"while true { } print 1;":                      "[[{0 0}] []]",
		"while true { print 1; }":                      "[[{1 0}] [{1 0}]]",
		"while true { print 1; print 2; } print 3;":    "[[{2 0}] [{2 0}] [{2 0}] []]",
		"while true { while true { } }":                "[[{0 0} {1 0}] [{1 0}]]",
		"while true { while true { print 1; } }":       "[[{1 0}] [{1 0} {2 0}] [{2 0}]]",
		"while true { if true { print 1; } }":          "[[{1 0}] [{2 0}] [{2 0}]]",
		"while true { if true { } else { } } print 1;": "[[{1 0}] [{1 0}] []]",
		"while true { } while true { }":                "[[{0 0}] [{1 0}]]",
		"if true { while true { } } print 1;":          "[[{0 0} {1 0}] [] []]",
		"while true { if true { } print 1; } print 2;": "[[{2 0}] [{2 0}] [{2 0}] []]",
	} {
		wantOf(t, inMain(body), want)
	}
}

func TestJumps(t *testing.T) {
	for body, want := range map[string]string{
		"while true { break; }":                                   "[[{1 0}] []]",
		"while true { break; } print 1;":                          "[[{1 0}] [] []]",
		"while true { continue; } print 1;":                       "[[{1 0}] [{1 0}] []]",
		"while true { return; } print 1;":                         "[[{1 0}] [] [{1 1}]]",
		"return; print 1;":                                        "[[] []]",
		"while true { break; print 1; } print 2;":                 "[[{2 0}] [] [] []]",
		"while true { continue; print 1; } print 2;":              "[[{2 0}] [] [{2 0}] []]",
		"while true { if true { break; } print 1; } print 2;":     "[[{1 0}] [{3 0}] [{1 1}] [{1 1}] []]",
		"while true { if true { continue; } print 1; } print 2;":  "[[{1 0}] [{3 0}] [{1 1}] [{3 0}] []]",
		"while true { if true { return; } print 1; } print 2;":    "[[{1 0}] [{3 0}] [{1 1}] [{1 1}] [{3 1}]]",
		"while true { while true { break; } print 1; } print 2;":  "[[{1 0}] [{3 0}] [{3 0}] [{3 0}] []]",
		"while true { while true { if true { return; } } }":       "[[{1 0}] [{2 0}] [{1 1} {3 0}] [{2 1}]]",
		"while true { if true { break; } else { return; } }":      "[[{2 0}] [{2 1}] [{3 0}] []]",
		"while true { if true { break; } else { return; } } f();": "[[{2 0}] [{2 1}] [{3 0}] [] [{2 0} {3 1}]]",
	} {
		wantOf(t, inMain(body)+" func f() { }", want)
	}
}

// What can't be reached has its leans, too.
func TestNeverReached(t *testing.T) {
	wantOf(t, inMain("return; if true { print 1; } print 2;"), "[[] [{2 0}] [] []]")
	wantOf(t, inMain("while true { break; if true { continue; } } print 1;"), "[[{3 0}] [{2 0}] [] [] []]")
	wantFalls(t, inMain("return; if true { print 1; } print 2;"), "[2 3 3 -1]")
}

// A function's statements lean on its own alone, whoever calls it.
func TestFunctions(t *testing.T) {
	wantOf(t, "func main() { } func f() { } func g() int { }", "[]")
	wantOf(t, "func main() { if true { f(); } } func f() { print 2; while true { main(); } } func g(x) int { if true { return x; } print g(x); }",
		"[[{1 0}] [] [] [{4 0}] [{4 0}] [{6 0}] [] [{6 1}]]")
	wantFalls(t, "func main() { if true { f(); } } func f() { print 2; while true { main(); } } func g(x) int { if true { return x; } print g(x); }",
		"[-1 -1 4 4 -1 7 7 -1]")
}

func TestFalls(t *testing.T) {
	for body, want := range map[string]string{
		"if true { }":                            "[-1]",
		"if true { } print 1;":                   "[1 -1]",
		"if true { print 1; print 2; } print 3;": "[1 3 3 -1]",
		"if true { print 1; } else { print 2; }": "[-1 -1 -1]",
		"if true { print 1; } else if true { print 2; } else { print 3; } print 4;": "[5 5 5 5 5 -1]",
		"while true { }":                                      "[-1]",
		"while true { } print 1;":                             "[1 -1]",
		"while true { print 1; print 2; } print 3;":           "[1 2 3 -1]",
		"while true { break; }":                               "[1 -1]",
		"while true { continue; }":                            "[1 -1]",
		"while true { return; } print 1;":                     "[1 2 -1]",
		"while true { break; print 1; } print 2;":             "[1 2 3 -1]",
		"while true { if true { break; } print 1; } print 2;": "[2 2 3 4 -1]",
		"while true { if true { continue; } } print 2;":       "[2 2 3 -1]",
		"while true { while true { } } print 1;":              "[1 2 -1]",
		"while true { while true { break; } } print 1;":       "[1 2 3 -1]",
		"return; return; print 1;":                            "[1 2 -1]",
	} {
		wantFalls(t, inMain(body), want)
	}
}

const ways = "func main() { while true { if true { break; } print 1; } print 2; } func f() { return; while true { } if true { return; } print 3; }"

// its places
const (
	inBreak = iota
	inIf
	inPrint
	inWhile
	inLast
	fReturn
	fWhile
	fInner
	fIf
	fPrint
)

// leansOfWays: what each of these leans on.
func leansOfWays() [][]lean.Lean {
	return [][]lean.Lean{
		inBreak: {{At: inIf, Way: 0}},
		inIf:    {{At: inWhile, Way: 0}},
		inPrint: {{At: inIf, Way: 1}},
		inWhile: {{At: inIf, Way: 1}},
		inLast:  nil,
		fReturn: nil,
		fWhile:  {{At: fWhile, Way: 0}},
		fInner:  {{At: fIf, Way: 0}},
		fIf:     nil,
		fPrint:  {{At: fIf, Way: 1}},
	}
}

func TestOf(t *testing.T) {
	got := lean.Of(flow.Of(parsed(t, ways)))
	for at, want := range leansOfWays() {
		if !slices.Equal(got[at], want) {
			t.Errorf("P9.1: %d leans on %v, want %v", at, got[at], want)
		}
	}
	if len(got) != fPrint+1 {
		t.Errorf("P9.1: the leans of %d statements, want %d", len(got), fPrint+1)
	}
}

func TestUnder(t *testing.T) {
	g := flow.Of(parsed(t, ways))
	under := map[lean.Lean][]int{
		{At: inIf, Way: 0}:    {inBreak},
		{At: inIf, Way: 1}:    {inPrint, inWhile},
		{At: inWhile, Way: 0}: {inIf},
		{At: fWhile, Way: 0}:  {fWhile},
		{At: fIf, Way: 0}:     {fInner},
		{At: fIf, Way: 1}:     {fPrint},
	}
	for _, at := range []int{-1 << 63, -2, -1, 0, 1, 2, 3, 4, 5, 6, 7, 8, 9, 10, 1<<63 - 1} {
		for _, way := range []int{-1 << 63, -1, 0, 1, 2, 3, 1<<63 - 1} {
			if got, want := lean.Under(g, at, way), under[lean.Lean{At: at, Way: way}]; !slices.Equal(got, want) {
				t.Errorf("P9.1: Under %d, %d: %d, want %d", at, way, got, want)
			}
		}
	}
}

func TestClosed(t *testing.T) {
	g := flow.Of(parsed(t, ways))
	for _, l := range [][]int{nil, {}, {inLast}, {fReturn, inLast, fIf}, {fWhile}, {inIf, inWhile}, {inWhile, inIf}, {inBreak, inIf, inWhile}, {inPrint, inWhile, inIf, inLast}, {fPrint, fIf}, {fIf, fPrint, fInner, fPrint, fIf}, {0, 1, 2, 3, 4, 5, 6, 7, 8, 9}} {
		if !lean.Closed(g, l) {
			t.Errorf("P9.1: %d isn't closed", l)
		}
	}
	for _, l := range [][]int{{inBreak}, {inIf}, {inWhile}, {inPrint, inPrint}, {inBreak, inIf}, {inBreak, inWhile}, {inPrint, inWhile, inLast}, {fPrint}, {fWhile, fInner}, {0, 1, 2, 3, 4, 5, 6, 7, 9}, {fPrint, fIf, inWhile}} {
		if lean.Closed(g, l) {
			t.Errorf("P9.1: %d is closed", l)
		}
	}
}

func TestAsOftenAsOneLikes(t *testing.T) {
	p := parsed(t, ways)
	g := flow.Of(p)
	leans, falls := lean.Of(g), lean.Falls(p)
	for range 20 {
		q := parsed(t, ways)
		h := flow.Of(q)
		if !reflect.DeepEqual(lean.Of(g), leans) || !reflect.DeepEqual(lean.Of(h), leans) || !reflect.DeepEqual(lean.Falls(p), falls) || !reflect.DeepEqual(lean.Falls(q), falls) {
			t.Fatal("P9.1: a call answers otherwise the next time")
		}
		if !slices.Equal(lean.Under(g, inIf, 1), []int{inPrint, inWhile}) || lean.Closed(g, []int{inIf}) || !lean.Closed(g, []int{inIf, inWhile}) {
			t.Fatal("P9.1: a call answers otherwise the next time")
		}
	}
}

// README.md's example.
func TestReadme(t *testing.T) {
	p := parsed(t, "func main() { var b = true; while b { if b { break; } print 1; } print 2; }")
	g := flow.Of(p)
	got := fmt.Sprint(lean.Of(g), lean.Under(g, 2, 1), lean.Falls(p), lean.Closed(g, []int{3, 2}), lean.Closed(g, []int{3, 2, 4}))
	if got != "[[] [{2 0}] [{4 0}] [{2 1}] [{2 1}] []] [3 4] [4 3 3 4 5 -1] false true" {
		t.Errorf("P9.1: README's example: %s", got)
	}
}

func TestMostStatements(t *testing.T) {
	const n = api.MaxStates
	p := parsed(t, inMain(strings.Repeat("print 1; ", n)))
	for at, l := range lean.Of(flow.Of(p)) {
		if want := (at+2)%(n+1) - 1; len(l) > 0 || lean.Falls(p)[at] != want {
			t.Errorf("P9.1: %d leans on %v, and falls to %d, want none and %d", at, l, lean.Falls(p)[at], want)
		}
	}
	// The print has the last place but one, behind an if and a break each at the places 0 to n-3; the while has the last.
	q := parsed(t, inMain("while true { "+strings.Repeat("if true { break; } ", n/2-1)+"print 1; }"))
	g := flow.Of(q)
	for at, l := range lean.Of(g)[:n-2] {
		want := lean.Lean{At: at + 1 - at%2*3, Way: at % 2}
		if at == 1 {
			want = lean.Lean{At: n - 1, Way: 0}
		}
		if len(l) != 1 || l[0] != want {
			t.Errorf("P9.1: %d leans on %v, want %v", at, l, want)
		}
	}
	if l := lean.Under(g, n-3, 1); !slices.Equal(l, []int{n - 2, n - 1}) {
		t.Errorf("P9.1: on the last if's way 1 lean %d", l)
	}
}

// A statement may lean on as many ways as there is room for.
func TestMostLeans(t *testing.T) {
	const n = (api.MaxStates - 2) / 4
	text := inMain("while true { " + strings.Repeat("if true { if true { return; } continue; } ", n) + "} print 1;")
	// The places of each row are return, if, continue, if; the while is behind them.
	leans := lean.Of(flow.Of(parsed(t, text)))
	var want []lean.Lean
	for k := range n {
		want = append(want, lean.Lean{At: 4*k + 1, Way: 1})
	}
	want = append(want, lean.Lean{At: 4*n - 1, Way: 1})
	if !slices.Equal(leans[4*n], want) {
		t.Errorf("P9.1: the while leans on %v, want %v", leans[4*n], want)
	}
}

func TestDeepest(t *testing.T) {
	deep := api.MaxDepth - 1
	// The innermost while has the place 1, behind the print in it; each other one is 1 more than the one in it.
	p := parsed(t, inMain(strings.Repeat("while true { ", deep)+"print 1;"+strings.Repeat(" }", deep)))
	leans, falls := lean.Of(flow.Of(p)), lean.Falls(p)
	for at := 1; at < deep; at++ {
		if want := []lean.Lean{{At: at, Way: 0}, {At: at + 1, Way: 0}}; !slices.Equal(leans[at], want) || falls[at] != at+1 {
			t.Errorf("P9.1: %d leans on %v, and falls to %d, want %v", at, leans[at], falls[at], want)
		}
	}
	if falls[0] != 1 || falls[deep] != exit || len(leans[0]) != 1 || len(leans[deep]) != 1 {
		t.Errorf("P9.1: the innermost print and the outermost while lean on %v and %v", leans[0], leans[deep])
	}
	q := parsed(t, inMain(strings.Repeat("if true { ", deep)+"print 1;"+strings.Repeat(" }", deep)+" print 2;"))
	for at, l := range lean.Of(flow.Of(q))[:deep] {
		if want := []lean.Lean{{At: at + 1, Way: 0}}; !slices.Equal(l, want) || lean.Falls(q)[at] != deep+1 {
			t.Errorf("P9.1: %d leans on %v, and falls to %d, want %v and %d", at, l, lean.Falls(q)[at], want, deep+1)
		}
	}
}
