package trace_test

import (
	"strconv"
	"testing"

	"rewind/api"
	"rewind/code"
	"rewind/trace"
	"rewind/world"
)

func TestRowsOfNames(t *testing.T) {
	// Each as often as it is touched, in order; who reads nothing has no touch.
	wantTrace(t, "func main() { var x = 5; var y = x * x - x; var b = y > x || y / 0 == 1; if b && x < y { x = -y; } print !b; return; }", with(), api.OK, "false\n",
		"{0 0 0 1 0 0 [] [{0 0 -1}]}",
		"{1 0 0 1 0 0 [{0 0 -1} {0 0 -1} {0 0 -1}] [{0 1 -1}]}",
		"{2 0 0 1 0 0 [{0 1 -1} {0 0 -1}] [{0 2 -1}]}",
		"{4 0 0 1 0 0 [{0 2 -1} {0 0 -1} {0 1 -1}] []}",
		"{3 0 0 1 0 0 [{0 1 -1}] [{0 0 -1}]}",
		"{5 0 0 1 0 0 [{0 2 -1}] []}",
		"{6 0 0 1 6 0 [] []}")
}

func TestRowsOfArrays(t *testing.T) {
	wantTrace(t, "func main() { var a[2]; var n = 0; while n < 2 { var b[3]; b[n] = a[1 - n]; a[b[n + 1]] = b[2]; n = n + 1; } }", with(), api.OK, "",
		"{0 0 0 1 0 0 [] [{0 0 0} {0 0 1}]}",
		"{1 0 0 1 0 0 [] [{0 1 -1}]}",
		"{6 0 0 1 0 0 [{0 1 -1}] []}",
		"{2 0 0 1 0 0 [] [{0 2 0} {0 2 1} {0 2 2}]}",
		"{3 0 0 1 0 0 [{0 1 -1} {0 1 -1} {0 0 1}] [{0 2 0}]}",
		"{4 0 0 1 0 0 [{0 1 -1} {0 2 1} {0 2 2}] [{0 0 0}]}",
		"{5 0 0 1 0 0 [{0 1 -1}] [{0 1 -1}]}",
		"{6 0 0 1 0 0 [{0 1 -1}] []}",
		"{2 0 0 1 0 0 [] [{0 2 0} {0 2 1} {0 2 2}]}",
		"{3 0 0 1 0 0 [{0 1 -1} {0 1 -1} {0 0 0}] [{0 2 1}]}",
		"{4 0 0 1 0 0 [{0 1 -1} {0 2 2} {0 2 2}] [{0 0 0}]}",
		"{5 0 0 1 0 0 [{0 1 -1}] [{0 1 -1}]}",
		"{6 0 0 1 0 0 [{0 1 -1}] []}")
}

// Output and inputs are those as the record begins: without its own, with its callees'.
func TestRowsOfOutputAndInputs(t *testing.T) {
	wantTrace(t, "func main() { print read; var x = read + say(read); print x; }\nfunc say(n) int { print n; print n < 0; return n - read; }",
		with(10, 2000, -3, 4), api.OK, "10\n-3\ntrue\n1993\n",
		"{0 0 0 1 0 0 [] []}",
		"{1 0 0 1 3 1 [{1 -1 -1}] [{1 0 -1} {0 0 -1}]}",
		"{3 1 1 2 3 3 [{1 0 -1}] []}",
		"{4 1 1 2 6 3 [{1 0 -1}] []}",
		"{5 1 1 2 11 3 [{1 0 -1}] [{1 -1 -1}]}",
		"{2 0 0 1 11 4 [{0 0 -1}] []}")
}

func TestRowsOfCalls(t *testing.T) {
	// While its callees run, other records' touches stand between a record's own.
	wantTrace(t, "func main() { var x = 2; x = x - f(x, g(x)) * x; g(x); }\nfunc f(a, b) int { return g(b) + g(a) - b; }\nfunc g(n) int { if n > 1 { return n; } n = 7; }", with(), api.OK, "",
		"{0 0 0 1 0 0 [] [{0 0 -1}]}",
		"{1 0 0 1 0 0 [{0 0 -1} {0 0 -1} {0 0 -1} {1 -1 -1} {2 -1 -1} {0 0 -1}] [{1 0 -1} {2 0 -1} {2 1 -1} {0 0 -1}]}",
		"{5 1 2 2 0 0 [{1 0 -1}] []}",
		"{4 1 2 2 0 0 [{1 0 -1}] [{1 -1 -1}]}",
		"{3 2 1 2 0 0 [{2 1 -1} {3 -1 -1} {2 0 -1} {4 -1 -1} {2 1 -1}] [{3 0 -1} {4 0 -1} {2 -1 -1}]}",
		"{5 3 2 3 0 0 [{3 0 -1}] []}",
		"{4 3 2 3 0 0 [{3 0 -1}] [{3 -1 -1}]}",
		"{5 4 2 3 0 0 [{4 0 -1}] []}",
		"{4 4 2 3 0 0 [{4 0 -1}] [{4 -1 -1}]}",
		"{2 0 0 1 0 0 [{0 0 -1} {5 -1 -1}] [{5 0 -1}]}",
		"{5 5 2 2 0 0 [{5 0 -1}] []}",
		"{6 5 2 2 0 0 [] [{5 0 -1}]}")
	// Calls that answer nothing, and such as have no statement.
	wantTrace(t, "func main() { f(4); none(); print no(8); main2(); }\nfunc f(n) { return; }\nfunc none() { }\nfunc no(n) int { }\nfunc main2() { f(1); }", with(), api.OK, "0\n",
		"{0 0 0 1 0 0 [] [{1 0 -1}]}",
		"{4 1 1 2 0 0 [] []}",
		"{1 0 0 1 0 0 [] []}",
		"{2 0 0 1 0 0 [{3 -1 -1}] [{3 0 -1}]}",
		"{3 0 0 1 2 0 [] []}",
		"{5 4 4 2 2 0 [] [{5 0 -1}]}",
		"{4 5 1 3 2 0 [] []}")
	// One that calls itself.
	wantTrace(t, "func main() { print f(2); }\nfunc f(n) int { if n == 0 { return 1; } return n * f(n - 1); }", with(), api.OK, "2\n",
		"{0 0 0 1 0 0 [{1 -1 -1}] [{1 0 -1}]}",
		"{2 1 1 2 0 0 [{1 0 -1}] []}",
		"{3 1 1 2 0 0 [{1 0 -1} {1 0 -1} {2 -1 -1}] [{2 0 -1} {1 -1 -1}]}",
		"{2 2 1 3 0 0 [{2 0 -1}] []}",
		"{3 2 1 3 0 0 [{2 0 -1} {2 0 -1} {3 -1 -1}] [{3 0 -1} {2 -1 -1}]}",
		"{2 3 1 4 0 0 [{3 0 -1}] []}",
		"{1 3 1 4 0 0 [] [{3 -1 -1}]}")
}

// A record has what was touched ahead of the error that ended it, or of the step that wasn't left.
func TestRowsAheadOfAnError(t *testing.T) {
	wantTrace(t, "func main() { var x = 0; x = x + x / x; }", with(), api.ErrZero, "", "{0 0 0 1 0 0 [] [{0 0 -1}]}", "{1 0 0 1 0 0 [{0 0 -1} {0 0 -1} {0 0 -1}] []}")
	wantTrace(t, "func main() { var x = 2; var a[2]; a[x] = a[1]; }", with(), api.ErrIndex, "", "{0 0 0 1 0 0 [] [{0 0 -1}]}", "{1 0 0 1 0 0 [] [{0 1 0} {0 1 1}]}", "{2 0 0 1 0 0 [{0 0 -1} {0 1 1}] []}")
	wantTrace(t, "func main() { var x = read; print x; x = x + read; }", with(3), api.ErrInput, "3\n", "{0 0 0 1 0 0 [] [{0 0 -1}]}", "{1 0 0 1 0 1 [{0 0 -1}] []}", "{2 0 0 1 2 1 [{0 0 -1}] []}")
	wantTrace(t, "func main() { f(1); }\nfunc f(n) { print n; f(n); }", world.World{Steps: 3}, api.ErrSpent, "1\n", "{0 0 0 1 0 0 [] [{1 0 -1}]}", "{1 1 1 2 0 0 [{1 0 -1}] []}", "{2 1 1 2 2 0 [{1 0 -1}] [{2 0 -1}]}")
	wantTrace(t, "func main() { var x = f(1); }\nfunc f(n) int { return n + 1 / (n - 1); }", with(), api.ErrZero, "", "{0 0 0 1 0 0 [] [{1 0 -1}]}", "{1 1 1 2 0 0 [{1 0 -1} {1 0 -1}] []}")
	tr := traced(t, "func main() { f(1); }\nfunc f(n) { f(n); }", 999)
	last := tr.Rows[len(tr.Rows)-1]
	if len(tr.Rows) != api.MaxCalls || tr.End != api.ErrStack || last.Depth != api.MaxCalls || last.Call != 63 || len(last.Reads) != 1 || len(last.Writes) != 0 {
		t.Errorf("P14.1: of too many calls: %d rows, the end %d, the last row %v", len(tr.Rows), tr.End, last)
	}
}

// The longest run has a row of each statement, also in as many calls as may be, with many arrays.
func TestTheLongestRun(t *testing.T) {
	arrays := ""
	for n := range 60 {
		arrays += "var a" + strconv.Itoa(n) + "[64]; "
	}
	tr := traced(t, "func main() { f(62); }\nfunc f(n) { "+arrays+"if n > 0 { f(n - 1); } while true { print a7[n]; } }", api.MaxSteps)
	if len(tr.Rows) != api.MaxSteps || tr.End != api.ErrSpent {
		t.Fatalf("P14.1: the longest run has %d rows and ends with %d, want %d, %d", len(tr.Rows), tr.End, api.MaxSteps, api.ErrSpent)
	}
	first, rounds := 1+62*62+61, 0
	for record, r := range tr.Rows[first:] {
		if r.Call != 63 || r.Func != 1 || r.Depth != api.MaxCalls || r.Out != 2*rounds || len(r.Reads) != 2*(record%2) || len(r.Writes) > 0 {
			t.Fatalf("P14.1: the row of the record %d is %v", first+record, r)
		}
		rounds += record % 2
	}
}

// Of good code that no program has a trace ends, whatever it touches ahead of a statement.
func TestRowsOfOtherCode(t *testing.T) {
	for text, rows := range map[string]int{
		"proc main 0 1 4\nconst 1\nstore 0\nload 0\nprint 1\nreturn 0\n": 0,
		"proc main 0 1 4\nconst 1\nstore 0\njump 0\n":                    0,
		"proc main 0 1 4\nconst 1\ncall 1\nmark 0\nload 0\npop\nreturn 0\nproc f 1 2 1\nload 0\nnew 1 3\nmark 999\nstore 0\nconst 5\nreturn 1\nconst 0\nreturn 1\n": 2,
	} {
		c, line, e := code.Parse(text)
		if e != api.OK {
			t.Fatalf("Parse of %q: %d, %d", text, line, e)
		}
		if tr, e := trace.Of(c, with()); e != api.OK || len(tr.Rows) != rows {
			t.Errorf("P6: Of %q: %v, %d", text, tr, e)
		}
	}
}
