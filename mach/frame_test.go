package mach_test

import (
	"fmt"
	"strings"
	"testing"

	"rewind/mach"
)

// wantTold: what is told behind each Next, up to the one that comes to the end.
func wantTold(t *testing.T, text string, tell func(m *mach.Machine) string, inputs []int, want ...string) {
	t.Helper()
	m := started(t, built(t, text), 30, inputs...)
	for n, x := range want {
		if next := m.Next(); next != (n < len(want)-1) {
			t.Errorf("P13.1: %s\nthe Next number %d: %t", text, n, next)
		}
		if got := tell(m); got != x {
			t.Errorf("P13.1: %s\nbehind the Next number %d\n%s\nwant\n%s", text, n, got, x)
		}
	}
}

func frames(m *mach.Machine) string { return strings.Trim(fmt.Sprint(m.Frames()), "[]") }

// touches: of each its record, and what it reads (r), or writes (w).
func touches(m *mach.Machine) string {
	var out []string
	for _, x := range m.Touches() {
		what := map[bool]string{false: "r", true: "w"}[x.Write]
		out = append(out, fmt.Sprint(x.Record, what, x.Spot))
	}
	return strings.Join(out, " ")
}

func TestFramesOfNames(t *testing.T) {
	wantTold(t, "func main() { var x = 5; var b = x > 3; b = !b; x = -x; print b; }", frames, nil,
		"{0 0 0 0 [{0 []} {0 []}]}", "{0 0 1 1 [{5 []} {0 []}]}", "{0 0 2 2 [{5 []} {1 []}]}", "{0 0 3 3 [{5 []} {0 []}]}", "{0 0 4 4 [{-5 []} {0 []}]}", "")
	wantTold(t, "func main() { print 1; }", frames, nil, "{0 0 0 0 []}", "")
	wantTold(t, "func main() { }", frames, nil, "")
	wantTold(t, "func main() { print 1 / 0; print 2; }", frames, nil, "{0 0 0 0 []}", "")
}

func TestFramesOfArrays(t *testing.T) {
	wantTold(t, "func main() { var x = 1; var a[3]; a[x] = 7; print a[1]; var b[1]; return; }", frames, nil,
		"{0 0 0 0 [{0 []} {0 []} {0 []}]}", "{0 0 1 1 [{1 []} {0 []} {0 []}]}", "{0 0 2 2 [{1 []} {0 [0 0 0]} {0 []}]}", "{0 0 3 3 [{1 []} {0 [0 7 0]} {0 []}]}", "{0 0 4 4 [{1 []} {0 [0 7 0]} {0 []}]}", "{0 0 5 5 [{1 []} {0 [0 7 0]} {0 [0]}]}", "")
	// A name that comes again has what it had, till its statement is done.
	wantTold(t, "func main() { var n = 1; while n < 3 { var a[2]; a[0] = n; n = n + 1; } }", frames, nil,
		"{0 0 0 0 [{0 []} {0 []}]}", "{0 0 4 1 [{1 []} {0 []}]}",
		"{0 0 1 2 [{1 []} {0 []}]}", "{0 0 2 3 [{1 []} {0 [0 0]}]}", "{0 0 3 4 [{1 []} {0 [1 0]}]}", "{0 0 4 5 [{2 []} {0 [1 0]}]}",
		"{0 0 1 6 [{2 []} {0 [1 0]}]}", "{0 0 2 7 [{2 []} {0 [0 0]}]}", "{0 0 3 8 [{2 []} {0 [2 0]}]}", "{0 0 4 9 [{3 []} {0 [2 0]}]}", "")
}

func TestFramesOfCalls(t *testing.T) {
	wantTold(t, "func main() { f(8, 9); print f(1, 2); f(0, 0); }\nfunc f(x, y) int { var z = x + y; if z > 9 { g(); } return z; }\nfunc g() { none(); print 5; }\nfunc none() { }", frames, nil,
		"{0 0 0 0 []}",
		"{0 0 0 0 []} {1 1 3 1 [{8 []} {9 []} {0 []}]}",
		"{0 0 0 0 []} {1 1 5 2 [{8 []} {9 []} {17 []}]}",
		"{0 0 0 0 []} {1 1 4 3 [{8 []} {9 []} {17 []}]}",
		"{0 0 0 0 []} {1 1 4 3 [{8 []} {9 []} {17 []}]} {2 2 7 4 []}",
		"{0 0 0 0 []} {1 1 4 3 [{8 []} {9 []} {17 []}]} {2 2 8 5 []}", // the call of none was number 3
		"{0 0 0 0 []} {1 1 6 6 [{8 []} {9 []} {17 []}]}",
		"{0 0 1 7 []}",
		"{0 0 1 7 []} {4 1 3 8 [{1 []} {2 []} {0 []}]}",
		"{0 0 1 7 []} {4 1 5 9 [{1 []} {2 []} {3 []}]}",
		"{0 0 1 7 []} {4 1 6 10 [{1 []} {2 []} {3 []}]}",
		"{0 0 2 11 []}",
		"{0 0 2 11 []} {5 1 3 12 [{0 []} {0 []} {0 []}]}",
		"{0 0 2 11 []} {5 1 5 13 [{0 []} {0 []} {0 []}]}",
		"{0 0 2 11 []} {5 1 6 14 [{0 []} {0 []} {0 []}]}",
		"")
	wantTold(t, "func main() { print f(2); }\nfunc f(n) int { if n > 1 { return f(n - 1); } n = 7; }", frames, nil,
		"{0 0 0 0 []}",
		"{0 0 0 0 []} {1 1 2 1 [{2 []}]}",
		"{0 0 0 0 []} {1 1 1 2 [{2 []}]}",
		"{0 0 0 0 []} {1 1 1 2 [{2 []}]} {2 1 2 3 [{1 []}]}",
		"{0 0 0 0 []} {1 1 1 2 [{2 []}]} {2 1 3 4 [{1 []}]}",
		"")
}

func TestTouchesOfNames(t *testing.T) {
	wantTold(t, "func main() { var x = 5; var b = x > 3; b = !b; x = x * -x; print b; print read; print 1; }", touches, []int{4},
		"", "0w{0 0 -1}", "1r{0 0 -1} 1w{0 1 -1}", "2r{0 1 -1} 2w{0 1 -1}", "3r{0 0 -1} 3r{0 0 -1} 3w{0 0 -1}", "4r{0 1 -1}", "", "")
	wantTold(t, "func main() { var x = 1; if x < 1 || x == 1 && x > 5 { print 1; } while x < 2 { x = x + 1; break; } return; }", touches, nil,
		"", "0w{0 0 -1}", "1r{0 0 -1} 1r{0 0 -1} 1r{0 0 -1}", "2r{0 0 -1}", "3r{0 0 -1} 3w{0 0 -1}", "", "")
}

func TestTouchesOfArrays(t *testing.T) {
	wantTold(t, "func main() { var x = 1; var a[3]; a[x] = 7; print a[x + 1] - a[a[0]]; a[a[2]] = a[1]; print x; }", touches, nil,
		"", "0w{0 0 -1}", "1w{0 1 0} 1w{0 1 1} 1w{0 1 2}", "2r{0 0 -1} 2w{0 1 1}", "3r{0 0 -1} 3r{0 1 2} 3r{0 1 0} 3r{0 1 0}", "4r{0 1 2} 4r{0 1 1} 4w{0 1 0}", "5r{0 0 -1}")
}

func TestTouchesOfCalls(t *testing.T) {
	// Arguments ahead of the parameters; what a call answers is written by its return, and read by the record that called.
	wantTold(t, "func main() { var x = 2; print x - f(x, 1 + x); f(x, x); print x; }\nfunc f(a, b) int { return a * b; }", touches, nil,
		"", "0w{0 0 -1}", "1r{0 0 -1} 1r{0 0 -1} 1r{0 0 -1} 1w{1 0 -1} 1w{1 1 -1}", "2r{1 0 -1} 2r{1 1 -1} 2w{1 -1 -1} 1r{1 -1 -1}",
		"3r{0 0 -1} 3r{0 0 -1} 3w{2 0 -1} 3w{2 1 -1}", "4r{2 0 -1} 4r{2 1 -1} 4w{2 -1 -1} 3r{2 -1 -1}", "5r{0 0 -1}")
	// One that ends without a return answers, but nothing has written it, also where it has a return.
	wantTold(t, "func main() { print f(1); print f(5); print none(3) + none(4); print 0; }\nfunc f(n) int { if n > 2 { return n; } }\nfunc none(n) int { }", touches, nil,
		"", "0w{1 0 -1}", "1r{1 0 -1} 0r{1 -1 -1}", "2w{2 0 -1}", "3r{2 0 -1}", "4r{2 0 -1} 4w{2 -1 -1} 2r{2 -1 -1}", "5w{3 0 -1} 5r{3 -1 -1} 5w{4 0 -1} 5r{4 -1 -1}", "")
	// Who answers nothing touches nothing, nor does who ends main.
	wantTold(t, "func main() { f(1); g(); print 1; return; }\nfunc f(n) { return; }\nfunc g() { }", touches, nil,
		"", "0w{1 0 -1}", "", "", "", "")
	// Several end at once.
	wantTold(t, "func main() { var x = f(1); }\nfunc f(n) int { return n + g(n); }\nfunc g(n) int { return -n; }", touches, nil,
		"", "0w{1 0 -1}", "1r{1 0 -1} 1r{1 0 -1} 1w{2 0 -1}", "2r{2 0 -1} 2w{2 -1 -1} 1r{2 -1 -1} 1w{1 -1 -1} 0r{1 -1 -1} 0w{0 0 -1}")
}

// What happened ahead of an error is told; what the error kept from happening isn't.
func TestTouchesAheadOfAnError(t *testing.T) {
	wantTold(t, "func main() { var x = 0; x = x + x / x; }", touches, nil, "", "0w{0 0 -1}", "1r{0 0 -1} 1r{0 0 -1} 1r{0 0 -1}")
	wantTold(t, "func main() { var x = 3; var a[2]; print a[x]; }", touches, nil, "", "0w{0 0 -1}", "1w{0 1 0} 1w{0 1 1}", "2r{0 0 -1}")
	wantTold(t, "func main() { var x = 3; var a[2]; a[x] = a[1]; }", touches, nil, "", "0w{0 0 -1}", "1w{0 1 0} 1w{0 1 1}", "2r{0 0 -1} 2r{0 1 1}")
	wantTold(t, "func main() { var x = 3; x = x + read; }", touches, nil, "", "0w{0 0 -1}", "1r{0 0 -1}")
	text := "func main() { f(1); }\nfunc f(n) { f(n); }"
	m := started(t, built(t, text), 999)
	for m.Next() {
	}
	if got := touches(m); got != "63r{63 0 -1}" {
		t.Errorf("P13.1: the touches of a call that is one too many: %s", got)
	}
	m = started(t, built(t, text), 3)
	for m.Next() {
	}
	if got := touches(m); got != "2r{2 0 -1} 2w{3 0 -1}" {
		t.Errorf("P13.1: the touches ahead of a step too many: %s", got)
	}
}
