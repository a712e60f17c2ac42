package slice_test

import (
	"maps"
	"slices"
	"strings"
	"testing"

	"rewind/api"
	"rewind/slice"
	"rewind/world"
)

var longest = world.World{Steps: api.MaxSteps}

// Who asks of a record at a time what those it hangs on hang on goes through a long run again and again.
func TestTheLongestRun(t *testing.T) {
	text := "func main() { var x = 0; var y = 0; while true { x = x + 1; y = y + f(x); print x; } } func f(n) int { var a[3]; if n % 2 == 0 { a[1] = n; return n; } return a[1]; }"
	// What y hangs on, all that f does in it, but for a[1] = n: a[1] is read where that isn't done.
	y := "func main() { var x = 0; var y = 0; while true { x = x + 1; y = y + f(x); } } func f(n) int { var a[3]; if n % 2 == 0 { return n; } return a[1]; }"
	want := map[string]string{
		"x = x + 1;":    "func main() { var x = 0; while true { x = x + 1; } } func f(n) int { }",
		"y = y + f(x);": y,
		"print x;":      "func main() { var x = 0; while true { x = x + 1; print x; } } func f(n) int { }",
		"var a[3];":     y,
		"a[1] = n;":     strings.Replace(y, "return n;", "a[1] = n; return n;", 1),
		"return n;":     y,
		"return a[1];":  y,
	}
	for _, x := range []struct{ pace, room int }{{1, 1}, {1000, 1}, {1000, 1000}} {
		s := sourced(t, text, longest, x.pace, x.room)
		if n := len(s.Trace.Rows); n != api.MaxSteps {
			t.Fatalf("%d records, want %d", n, api.MaxSteps)
		}
		missing := maps.Clone(want)
		for record := api.MaxSteps - 1; len(missing) > 0; record-- {
			span := s.Tree.Stmts[s.Trace.Rows[record].Stmt].Span
			stmt := text[span.From:span.To]
			if missing[stmt] == "" {
				continue
			}
			if left := folded(slice.Text(s, sliced(t, s, record))); left != missing[stmt] {
				t.Errorf("P17.1: the slice of the record %d, which is %s, with the pace %d, the room %d, is\n%s\nwant\n%s", record, stmt, x.pace, x.room, left, missing[stmt])
			}
			delete(missing, stmt)
		}
	}
}

// As many statements as there may be, each one hanging on the one ahead.
func TestManyStatements(t *testing.T) {
	text := "func main() { var x = 0; while true { x = x + 1; " + strings.Repeat("x=x*3;if x<0{x=-x;}", 332) + "} }"
	s := sourced(t, text, longest, 100, 1)
	if n := len(s.Tree.Stmts); n != 999 {
		t.Fatalf("%d statements", n)
	}
	if l := sliced(t, s, api.MaxSteps-1); !slices.Equal(l, allOf(s)) {
		t.Errorf("P17.1: Of the last record: %d statements, want all", len(l))
	}
	if l := sliced(t, s, 0); !slices.Equal(l, []int{0}) {
		t.Errorf("P17.1: Of(0): %d", l)
	}
}

// Each break is asked for only when what stands behind it is in the slice: there are many turns, and long ways.
func TestManyJumps(t *testing.T) {
	jumps := strings.Repeat("if read>0{break;}else{if read>0{continue;}}", 240)
	text := "func main() { var x = 0; while x < 50 { x = x + 1; " + jumps + "x = x + 1; } print x; }"
	var inputs []int
	for n := range 1000 {
		inputs = append(inputs, n/997)
	}
	w := world.World{Steps: api.MaxSteps, Inputs: inputs}
	s := sourced(t, text, w, 10, 2)
	last := len(s.Trace.Rows) - 1
	l := sliced(t, s, last)
	wantRight(t, s, l)
	words := wordsOf(t, s, w)
	if want := words.slice(last); !slices.Equal(l, want) || len(l) < 300 {
		t.Errorf("P17.1: Of the last record: %d, want %d", l, want)
	}
}

// Ifs and whiles as deep as they may be.
func TestDeep(t *testing.T) {
	text := "func main() { var x = 0; " + strings.Repeat("while x < 3 { if true { ", 31) + "x = x + 1; " + strings.Repeat("break; } } ", 31) + "print x; }"
	s := sourced(t, text, longest, 3, 1)
	l := sliced(t, s, len(s.Trace.Rows)-1)
	wantRight(t, s, l)
	words := wordsOf(t, s, longest)
	if want := words.slice(len(s.Trace.Rows) - 1); !slices.Equal(l, want) {
		t.Errorf("P17.1: Of the last record: %d, want %d", l, want)
	}
}
