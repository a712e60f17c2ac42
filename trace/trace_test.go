package trace_test

import (
	"fmt"
	"math"
	"reflect"
	"slices"
	"strings"
	"testing"

	"rewind/api"
	"rewind/check"
	"rewind/code"
	"rewind/mach"
	"rewind/make"
	"rewind/syntax"
	"rewind/trace"
	"rewind/world"
)

// built: a text's code, which must be right.
func built(t *testing.T, text string) code.Code {
	t.Helper()
	p, at, e := syntax.Parse(text)
	info, where, f := check.Check(p)
	c, g := make.Make(p, info)
	if e != api.OK || f != api.OK || g != api.OK {
		t.Fatalf("no code of %.2000q: Parse %d, %d; Check %d, %d; Make %d", text, at, e, where, f, g)
	}
	return c
}

func traced(t *testing.T, text string, steps int, inputs ...int) trace.Trace {
	t.Helper()
	tr, e := trace.Of(built(t, text), world.World{Steps: steps, Inputs: inputs})
	if e != api.OK {
		t.Fatalf("P14.1: Of %.2000q: %d, want a trace", text, e)
	}
	return tr
}

// wantTrace: all rows, each as fmt tells it, and the end.
func wantTrace(t *testing.T, text string, w world.World, end api.Errno, out string, rows ...string) {
	t.Helper()
	tr := traced(t, text, w.Steps, w.Inputs...)
	if tr.End != end || tr.Out != out {
		t.Errorf("P14.1: %s\nends with %d, %q, want %d, %q", text, tr.End, tr.Out, end, out)
	}
	var got []string
	for _, r := range tr.Rows {
		got = append(got, fmt.Sprint(r))
	}
	if !slices.Equal(got, rows) {
		t.Errorf("P14.1: %s\nhas the rows\n%s\nwant\n%s", text, strings.Join(got, "\n"), strings.Join(rows, "\n"))
	}
}

func with(inputs ...int) world.World { return world.World{Steps: 50, Inputs: inputs} }

func TestOneRow(t *testing.T) {
	wantTrace(t, "func main() { print 1; }", with(), api.OK, "1\n", "{0 0 0 1 0 0 [] []}")
}

func TestProgramsWithoutRows(t *testing.T) {
	for _, steps := range []int{0, 1, api.MaxSteps} {
		wantTrace(t, "func main() { }\nfunc f() { print 1; }", world.World{Steps: steps}, api.OK, "")
	}
	wantTrace(t, "func main() { print 1; }", world.World{}, api.ErrSpent, "")
}

func TestOfWhatIsWrong(t *testing.T) {
	good := built(t, "func main() { print 1; }")
	params, _, e := code.Parse("proc f 1 1 4\nreturn 0\n")
	if e != api.OK {
		t.Fatal(e)
	}
	fits, many := world.World{Steps: 9}, world.World{Inputs: slices.Repeat([]int{0}, 1001)}
	for _, x := range []struct {
		c    code.Code
		w    world.World
		want api.Errno
	}{
		{code.Code{}, fits, api.ErrParse},
		{code.Code{Procs: good.Procs}, fits, api.ErrParse},
		{code.Code{}, world.World{Steps: -1}, api.ErrParse},
		{good, world.World{Steps: -1}, api.ErrRange},
		{good, world.World{Steps: api.MaxSteps + 1}, api.ErrRange},
		{good, many, api.ErrRange},
		{params, fits, api.ErrRange},
		{params, world.World{Steps: math.MinInt}, api.ErrRange},
	} {
		if tr, e := trace.Of(x.c, x.w); e != x.want || !reflect.DeepEqual(tr, trace.Trace{}) {
			t.Errorf("P14.1: Of %v, %d steps, %d inputs: %v, %d, want no trace, %d", x.c, x.w.Steps, len(x.w.Inputs), tr, e, x.want)
		}
	}
}

const loop = "func main() { var x = read; var a[3]; while x < 3 { a[x] = f(x); x = x + 1; } print a[0]; }\nfunc f(n) int { n = n * 2; return n; }"

func TestCount(t *testing.T) {
	tr := traced(t, loop, 99, 0)
	print := len(tr.Rows) - 1
	for _, x := range []struct{ stmt, before, want int }{
		{0, 0, 0}, {0, 1, 1}, {0, 2, 1}, {0, 3, 1},
		{4, 2, 0}, {4, 3, 1}, {4, print, 4}, {4, print + 1, 4},
		{2, 3, 0}, {2, 4, 1}, {6, 4, 0}, {6, 5, 1}, {6, 99, 3}, {7, 99, 3},
		{5, print, 0}, {5, print + 1, 1}, {5, print + 2, 1}, {5, math.MaxInt, 1},
		{0, -1, 0}, {0, math.MinInt, 0},
		{8, 99, 0}, {-1, 99, 0}, {math.MaxInt, math.MaxInt, 0}, {math.MinInt, 5, 0},
	} {
		if got := tr.Count(x.stmt, x.before); got != x.want {
			t.Errorf("P14.1: Count(%d, %d): %d, want %d", x.stmt, x.before, got, x.want)
		}
	}
}

func TestNth(t *testing.T) {
	tr := traced(t, loop, 99, 0)
	for _, x := range []struct{ stmt, n, want int }{
		{0, 0, 0}, {0, 1, -1}, {1, 0, 1},
		{4, 0, 2}, {4, 1, 7}, {4, 2, 12}, {4, 3, 17}, {4, 4, -1}, {4, math.MaxInt, -1},
		{2, 0, 3}, {6, 0, 4}, {7, 0, 5}, {3, 0, 6}, {7, 2, 15}, {7, 3, -1},
		{5, 0, 18}, {5, 1, -1},
		{4, -1, -1}, {4, math.MinInt, -1}, {0, -1, -1},
		{8, 0, -1}, {-1, 0, -1}, {math.MaxInt, 0, -1},
	} {
		if got := tr.Nth(x.stmt, x.n); got != x.want {
			t.Errorf("P14.1: Nth(%d, %d): %d, want %d", x.stmt, x.n, got, x.want)
		}
	}
}

func TestLast(t *testing.T) {
	tr := traced(t, loop, 99, 0)
	x, place, answer := mach.Spot{Place: -1}, mach.Spot{Slot: 1, Place: 1}, mach.Spot{Call: 2, Slot: -1, Place: -1}
	n := mach.Spot{Call: 2, Slot: 0, Place: -1}
	for _, l := range []struct {
		s            mach.Spot
		before, want int
	}{
		{x, 0, -1}, {x, 1, 0}, {x, 6, 0}, {x, 7, 6}, {x, 11, 6}, {x, 12, 11}, {x, 16, 11}, {x, 17, 16}, {x, 19, 16}, {x, 20, 16}, {x, math.MaxInt, 16},
		{x, -1, -1}, {x, math.MinInt, -1},
		// An array's places are written as it is made, and each by itself.
		{place, 1, -1}, {place, 2, 1}, {place, 8, 1}, {place, 9, 8}, {place, 99, 8},
		// A parameter by who calls, an answer by the return.
		{n, 8, -1}, {n, 9, 8}, {n, 10, 9}, {n, 99, 9}, {answer, 10, -1}, {answer, 11, 10}, {answer, 99, 10},
		// What is only read, or isn't there.
		{mach.Spot{Slot: 1, Place: -1}, 99, -1}, {mach.Spot{Slot: 1, Place: 3}, 99, -1}, {mach.Spot{Call: 9, Place: -1}, 99, -1}, {mach.Spot{}, 99, -1}, {mach.Spot{Slot: -1, Place: -1}, 99, -1},
	} {
		if got := tr.Last(l.s, l.before); got != l.want {
			t.Errorf("P14.1: Last(%v, %d): %d, want %d", l.s, l.before, got, l.want)
		}
	}
}

// A trace without rows answers each question.
func TestQuestionsWithoutRows(t *testing.T) {
	for _, tr := range []trace.Trace{{}, {Rows: []trace.Row{}}, traced(t, "func main() { }", 9)} {
		for _, n := range []int{0, 1, -1, math.MaxInt, math.MinInt} {
			if a, b, c := tr.Count(0, n), tr.Nth(0, n), tr.Last(mach.Spot{}, n); a != 0 || b != -1 || c != -1 {
				t.Errorf("P14.1: at %d: Count %d, Nth %d, Last %d, want 0, -1, -1", n, a, b, c)
			}
		}
	}
}
