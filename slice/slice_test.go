package slice_test

import (
	"math"
	"slices"
	"strings"
	"testing"

	"rewind/api"
	"rewind/check"
	"rewind/flow"
	"rewind/graph"
	"rewind/make"
	"rewind/slice"
	"rewind/syntax"
	"rewind/trace"
	"rewind/world"
)

// sourced: a text's, which must be right.
func sourced(t *testing.T, text string, w world.World, pace, room int) slice.Source {
	t.Helper()
	p, at, e := syntax.Parse(text)
	info, where, f := check.Check(p)
	c, g := make.Make(p, info)
	if e != api.OK || f != api.OK || g != api.OK {
		t.Fatalf("no code of %.2000q: Parse %d, %d; Check %d, %d; Make %d", text, at, e, where, f, g)
	}
	s := slice.Source{Text: text, Tree: p, Info: info, Flow: flow.Of(p)}
	if s.Graph, e = graph.New(c, w, s.Flow, pace, room); e != api.OK {
		t.Fatalf("no graph of %.2000q: %d", text, e)
	}
	if s.Trace, e = trace.Of(c, w); e != api.OK {
		t.Fatalf("no trace of %.2000q: %d", text, e)
	}
	return s
}

func with(inputs ...int) world.World { return world.World{Steps: 60, Inputs: inputs} }

// sliced: a record's slice, which must be there.
func sliced(t *testing.T, s slice.Source, record int) []int {
	t.Helper()
	l, e := slice.Of(s, record)
	if e != api.OK {
		t.Fatalf("P17.1: Of(%d) of %d records: %d, want a slice, of\n%s", record, len(s.Trace.Rows), e, s.Text)
	}
	return l
}

// folded: a text with one blank wherever blanks stand.
func folded(text string) string { return strings.Join(strings.Fields(text), " ") }

// want: what is left of a program by the slice of a record, folded; a record below 0 is counted from the end.
type want struct {
	record int
	text   string
}

func wantSlices(t *testing.T, text string, w world.World, l ...want) {
	t.Helper()
	for _, x := range []struct{ pace, room int }{{1, 1}, {2, 3}, {5, 1}, {1000, 1000}} {
		s := sourced(t, text, w, x.pace, x.room)
		for _, want := range l {
			record := want.record
			if record < 0 {
				record += len(s.Trace.Rows)
			}
			got := sliced(t, s, record)
			if left := folded(slice.Text(s, got)); left != want.text {
				t.Errorf("P17.1: the slice of the record %d, with the pace %d, the room %d, is %d:\n%s\nwant\n%s", record, x.pace, x.room, got, left, want.text)
			}
			wantRight(t, s, got)
		}
	}
}

// wantRight: P17.2.
func wantRight(t *testing.T, s slice.Source, l []int) {
	t.Helper()
	text := slice.Text(s, l)
	p, at, e := syntax.Parse(text)
	_, where, f := check.Check(p)
	if e != api.OK || f != api.OK {
		t.Fatalf("P17.2: Parse %d, %d; Check %d, %d, of\n%s\nwhich is the slice %d of\n%s", at, e, where, f, text, l, s.Text)
	}
	if len(p.Stmts) != len(l) || len(p.Funcs) != len(s.Tree.Funcs) {
		t.Fatalf("P17.2: %d functions, %d statements, want %d, %d, of\n%s\nwhich is a slice of\n%s", len(p.Funcs), len(p.Stmts), len(s.Tree.Funcs), len(l), text, s.Text)
	}
	for n, x := range p.Stmts {
		if was := s.Tree.Stmts[l[n]]; x.Kind != was.Kind || x.Name != was.Name || x.Span != was.Span {
			t.Errorf("P17.2: the statement %d is %v, in the program it was %v, of\n%s\nwhich is a slice of\n%s", n, x, was, text, s.Text)
		}
	}
}

func wantNumbers(t *testing.T, s slice.Source, record int, l ...int) {
	t.Helper()
	if got := sliced(t, s, record); !slices.Equal(got, l) {
		t.Errorf("P17.1: Of(%d): %d, want %d, of\n%s", record, got, l, s.Text)
	}
}

// The statements of a slice rise, by their places: those in a block come ahead of what they stand in.
func TestNumbers(t *testing.T) {
	s := sourced(t, "func main() { var x = 1; var y = 2; print x; }", with(), 3, 2)
	wantNumbers(t, s, 0, 0)
	wantNumbers(t, s, 1, 1)
	wantNumbers(t, s, 2, 0, 2)
	s = sourced(t, "func main() { f(1); }\nfunc f(n) { var z = 0; while n < 3 { z = n; n = n + 1; if n > 2 { print n; } } }", with(), 3, 2)
	wantNumbers(t, s, 0, 0)
	wantNumbers(t, s, 1, 0, 1)
	wantNumbers(t, s, 2, 0, 6)
	wantNumbers(t, s, 3, 0, 1, 2, 6)
	wantNumbers(t, s, 5, 0, 3, 5, 6)
	wantNumbers(t, s, 10, 0, 3, 4, 5, 6)
}

func TestNoSuchRecord(t *testing.T) {
	s := sourced(t, "func main() { var x = 1; print x; }", with(), 3, 2)
	empty := sourced(t, "func main() { }\nfunc f() { print 1; }", with(), 3, 2)
	spent := sourced(t, "func main() { print 1; }", world.World{}, 3, 2)
	for _, x := range []struct {
		s       slice.Source
		records []int
	}{
		{s, []int{-1, -2, 2, 3, 60, api.MaxSteps, math.MinInt, math.MaxInt}},
		{empty, []int{-1, 0, 1, math.MinInt, math.MaxInt}},
		{spent, []int{-1, 0, 1, math.MinInt, math.MaxInt}},
	} {
		for _, record := range x.records {
			if l, e := slice.Of(x.s, record); len(l) != 0 || e != api.ErrRange {
				t.Errorf("P17.1: Of(%d) of %d records: %d, %d, want none, %d", record, len(x.s.Trace.Rows), l, e, api.ErrRange)
			}
		}
	}
}

// Who wrote what is read, and who wrote what that read.
func TestWriters(t *testing.T) {
	wantSlices(t, "func main() { var x = 1; x = 2; x = 3; var y = x; print 7; print y; }", with(),
		want{0, "func main() { var x = 1; }"},
		want{1, "func main() { var x = 1; x = 2; }"},
		want{3, "func main() { var x = 1; x = 3; var y = x; }"},
		want{4, "func main() { print 7; }"},
		want{5, "func main() { var x = 1; x = 3; var y = x; print y; }"})
	wantSlices(t, "func main() { var a[3]; var i = 1; a[0] = 4; a[i] = 5; a[2] = a[0]; print a[1]; print a[i + 1]; var b[2]; print b[1]; }", with(),
		want{3, "func main() { var a[3]; var i = 1; a[i] = 5; }"},
		want{4, "func main() { var a[3]; a[0] = 4; a[2] = a[0]; }"},
		want{5, "func main() { var a[3]; var i = 1; a[i] = 5; print a[1]; }"},
		want{6, "func main() { var a[3]; var i = 1; a[0] = 4; a[2] = a[0]; print a[i + 1]; }"},
		want{8, "func main() { var b[2]; print b[1]; }"})
	// A second part that is left out reads nothing, but has names.
	wantSlices(t, "func main() { var x = 1; x = 2; var b = true; print b || x == 2; print !b && x == 2; }", with(),
		want{3, "func main() { var x = 1; var b = true; print b || x == 2; }"},
		want{4, "func main() { var x = 1; var b = true; print !b && x == 2; }"})
	wantSlices(t, "func main() { var x = 0; var y = 5; y = read; print 1 / x; print y; }", with(3),
		want{3, "func main() { var x = 0; print 1 / x; }"})
}

// All records of a statement count, up to the one that is asked; none behind it does.
func TestUpToTheRecord(t *testing.T) {
	text := "func main() { var x = 0; var y = 0; while x < 2 { print y; y = x; x = x + 1; } print y; }"
	wantSlices(t, text, with(),
		want{2, "func main() { var x = 0; while x < 2 { } }"},
		want{3, "func main() { var x = 0; var y = 0; while x < 2 { print y; } }"},
		want{4, "func main() { var x = 0; var y = 0; while x < 2 { y = x; } }"},
		want{6, "func main() { var x = 0; while x < 2 { x = x + 1; } }"},
		want{7, "func main() { var x = 0; var y = 0; while x < 2 { print y; y = x; x = x + 1; } }"},
		want{-1, "func main() { var x = 0; var y = 0; while x < 2 { y = x; x = x + 1; } print y; }"})
	// The print's first record reads z, its last one doesn't.
	wantSlices(t, "func main() { var b = true; var x = 3; var z = 4; z = 5; while x > 0 { x = x - 1; print b && z > 0; b = false; } }", with(),
		want{-3, "func main() { var b = true; var x = 3; var z = 4; z = 5; while x > 0 { x = x - 1; print b && z > 0; b = false; } }"})
}

func TestCalls(t *testing.T) {
	wantSlices(t, "func main() { var x = 1; var y = 2; print f(x, 5); }\nfunc f(a, b) int { print b; return a; }", with(),
		want{2, "func main() { var x = 1; print f(x, 5); } func f(a, b) int { return a; }"},
		// What the call answers is written behind the record.
		want{3, "func main() { var x = 1; print f(x, 5); } func f(a, b) int { print b; return a; }"},
		want{4, "func main() { var x = 1; print f(x, 5); } func f(a, b) int { return a; }"})
	wantSlices(t, "func main() { print none(); one(); }\nfunc none() int { print 1; }\nfunc one() int { print 2; return 1; }", with(),
		want{0, "func main() { print none(); } func none() int { } func one() int { }"},
		want{1, "func main() { print none(); } func none() int { print 1; } func one() int { }"},
		want{2, "func main() { one(); } func none() int { } func one() int { return 1; }"},
		want{4, "func main() { one(); } func none() int { } func one() int { return 1; }"})
	// A slot is one function's: the two that are numbered 0 have nothing to do with one another.
	wantSlices(t, "func main() { var x = 1; f(2); }\nfunc f(n) { print n; var x = 5; n = 3; print x; }", with(),
		want{2, "func main() { f(2); } func f(n) { print n; }"},
		want{4, "func main() { f(2); } func f(n) { n = 3; }"},
		want{5, "func main() { f(2); } func f(n) { var x = 5; print x; }"})
	// A record that has no end, as the program ends ahead of it, reads what it came to.
	wantSlices(t, "func main() { var x = 0; var y = 1; print y + f(y) + x; }\nfunc f(n) int { print n / 0; return 1; }", with(),
		want{2, "func main() { var x = 0; var y = 1; print y + f(y) + x; } func f(n) int { }"},
		want{3, "func main() { var x = 0; var y = 1; print y + f(y) + x; } func f(n) int { print n / 0; }"})
	wantSlices(t, "func main() { f(3); }\nfunc f(n) { var y = 1; if n > 0 { f(n - 1); } print n; print y; }", with(),
		want{9, "func main() { f(3); } func f(n) { if n > 0 { f(n - 1); } }"},
		want{12, "func main() { f(3); } func f(n) { if n > 0 { f(n - 1); } print n; }"},
		// The statement's other records count, too, which are of inner calls.
		want{-1, "func main() { f(3); } func f(n) { var y = 1; if n > 0 { f(n - 1); } print y; }"})
}

// Who let a record run.
func TestChoices(t *testing.T) {
	text := "func main() { var x = read; if x > 0 { print 1; } else { print 2; if x < 9 { print 3; } } print 4; }"
	wantSlices(t, text, with(1),
		want{2, "func main() { var x = read; if x > 0 { print 1; } else { } }"},
		want{3, "func main() { print 4; }"})
	wantSlices(t, text, with(0),
		want{1, "func main() { var x = read; if x > 0 { } else { } }"},
		want{2, "func main() { var x = read; if x > 0 { } else { print 2; } }"},
		want{4, "func main() { var x = read; if x > 0 { } else { if x < 9 { print 3; } } }"})
	wantSlices(t, "func main() { var x = 0; while true { x = x + 1; if x > 1 { return; } print 1; print x; } }", with(),
		want{4, "func main() { var x = 0; while true { x = x + 1; if x > 1 { } print 1; } }"},
		want{-1, "func main() { var x = 0; while true { x = x + 1; if x > 1 { return; } } }"})
	wantSlices(t, "func main() { if read > 0 { f(); } }\nfunc f() { print 1; g(); }\nfunc g() { while read > 0 { print 2; } print 3; }", with(1, 1, 0),
		want{5, "func main() { if read > 0 { f(); } } func f() { g(); } func g() { while read > 0 { print 2; } }"},
		want{7, "func main() { if read > 0 { f(); } } func f() { g(); } func g() { print 3; }"})
}

// Each name that is there must be brought, whoever wrote the value.
func TestNamesAreBrought(t *testing.T) {
	wantSlices(t, "func main() { var x = 1; if true { var x = 2; x = 3; print x; } x = 4; print x; }", with(),
		want{2, "func main() { if true { var x = 2; } }"},
		want{4, "func main() { if true { var x = 2; x = 3; print x; } }"},
		want{-1, "func main() { var x = 1; x = 4; print x; }"})
	wantSlices(t, "func main() { var a[3]; var b[3]; var x = 1; var y = 1; x = 2; y = 2; a[x] = -(f(b[y], 2) * 3); }\nfunc f(p, q) int { return 1; }", with(),
		want{6, "func main() { var a[3]; var b[3]; var x = 1; var y = 1; x = 2; y = 2; a[x] = -(f(b[y], 2) * 3); } func f(p, q) int { return 1; }"},
		want{7, "func main() { var a[3]; var b[3]; var x = 1; var y = 1; x = 2; y = 2; a[x] = -(f(b[y], 2) * 3); } func f(p, q) int { return 1; }"})
	// An if that none came to has names, too.
	wantSlices(t, "func main() { var x = 1; var y = 2; y = 3; if x > 0 { print 1; } else if y > 2 { var z = y; print z; } }", with(),
		want{-1, "func main() { var x = 1; var y = 2; if x > 0 { print 1; } else if y > 2 { } }"})
}

// An if statement alone behind else stays with its if: an else can't stand with nothing behind it.
func TestElseIf(t *testing.T) {
	text := "func main() { var x = read; if x == 1 { print 1; } else if x == 2 { print 2; } else if x == 3 { print 3; } else { print 4; } print 5; }"
	wantSlices(t, text, with(1),
		want{1, "func main() { var x = read; if x == 1 { } else if x == 2 { } else if x == 3 { } else { } }"},
		want{2, "func main() { var x = read; if x == 1 { print 1; } else if x == 2 { } else if x == 3 { } else { } }"})
	wantSlices(t, text, with(3),
		want{2, "func main() { var x = read; if x == 1 { } else if x == 2 { } else if x == 3 { } else { } }"},
		want{4, "func main() { var x = read; if x == 1 { } else if x == 2 { } else if x == 3 { print 3; } else { } }"},
		want{5, "func main() { print 5; }"})
	// So says the chapter of one in a block, too, if it is alone there; of two it doesn't.
	wantSlices(t, "func main() { if true { print 1; } else { if true { print 2; } } }", with(),
		want{1, "func main() { if true { print 1; } else { if true { } } }"})
	wantSlices(t, "func main() { if true { print 1; } else { if true { print 2; } if true { print 3; } } }", with(),
		want{1, "func main() { if true { print 1; } else { } }"})
	wantSlices(t, "func main() { if true { print 1; } else { while true { print 2; } } if true { if false { print 3; } print 4; } }", with(),
		want{1, "func main() { if true { print 1; } else { } }"},
		want{4, "func main() { if true { print 4; } }"})
}

func TestJumps(t *testing.T) {
	text := "func main() { var x = 0; while true { if x > 1 { break; } x = x + 1; print 7; } print x; }"
	wantSlices(t, text, with(),
		// It didn't come to the break yet.
		want{3, "func main() { var x = 0; while true { if x > 1 { } x = x + 1; } }"},
		want{8, "func main() { var x = 0; while true { if x > 1 { } x = x + 1; print 7; } }"},
		want{9, "func main() { var x = 0; while true { if x > 1 { } x = x + 1; } }"},
		want{-1, "func main() { var x = 0; while true { if x > 1 { break; } x = x + 1; } print x; }"})
	wantSlices(t, "func main() { var x = 0; var y = 0; while x < 4 { x = x + 1; if x == 2 { y = 9; continue; } y = y + 1; } print y; print x; }", with(),
		want{-2, "func main() { var x = 0; var y = 0; while x < 4 { x = x + 1; if x == 2 { y = 9; continue; } y = y + 1; } print y; }"},
		// Without the continue it goes on where it would go with it.
		want{-1, "func main() { var x = 0; while x < 4 { x = x + 1; } print x; }"})
	wantSlices(t, "func main() { var x = 0; x = f(5) + f(1); print x; }\nfunc f(n) int { if n > 3 { print 1; return n; } n = n * 2; print 2; return n; }", with(),
		want{-1, "func main() { var x = 0; x = f(5) + f(1); print x; } func f(n) int { if n > 3 { return n; } n = n * 2; return n; }"})
	// A jump to where all would come to anyhow isn't there.
	wantSlices(t, "func main() { var x = 3; while x > 0 { x = x - 1; if x == 7 { print 1; } else { continue; } } f(); print x; return; }\nfunc f() { print 2; return; }", with(),
		want{-2, "func main() { var x = 3; while x > 0 { x = x - 1; } print x; } func f() { }"},
		want{-1, "func main() { return; } func f() { }"})
	wantSlices(t, "func main() { var x = 1; while true { x = 2; while true { break; } break; } print 5; }", with(),
		want{-1, "func main() { print 5; }"})
	// A return from a call whose statements behind it aren't there.
	wantSlices(t, "func main() { var x = read; f(x); }\nfunc f(n) { print n; if n > 0 { return; } print 2; if n > 1 { return; } print 3; }", with(0),
		want{2, "func main() { var x = read; f(x); } func f(n) { print n; }"},
		want{4, "func main() { var x = read; f(x); } func f(n) { if n > 0 { } print 2; }"},
		want{6, "func main() { var x = read; f(x); } func f(n) { if n > 0 { } if n > 1 { } print 3; }"})
	wantSlices(t, "func main() { f(1); f(0); }\nfunc f(n) { if n > 0 { return; } print 2; }", with(),
		want{-1, "func main() { f(1); f(0); } func f(n) { if n > 0 { return; } print 2; }"})
}

// Jumps are asked about by their numbers, each with what is in the slice by then: were the outer break in it ahead of the inner one, there would be no need of that.
func TestJumpsByTheirNumbers(t *testing.T) {
	wantSlices(t, "func main() { var x = 0; while x < 9 { x = x + 1; if x > 1 { while true { break; } break; } } print x; }", with(),
		want{-1, "func main() { var x = 0; while x < 9 { x = x + 1; if x > 1 { while true { break; } break; } } print x; }"},
		// Here the outer one is in it from the beginning.
		want{-2, "func main() { var x = 0; while x < 9 { x = x + 1; if x > 1 { break; } } }"})
}

// What a jump brings may be what another one is asked for: they are asked about again, till none is.
func TestJumpsAreAskedAgain(t *testing.T) {
	text := "func main() { var y = 0; while true { y = 5; if read > 0 { break; } print 7; } var x = 0; while true { x = x + 1; if y > 0 { break; } } print x; }"
	wantSlices(t, text, with(1),
		want{-1, strings.Replace(text, "print 7; ", "", 1)},
		// Where the second one isn't in it, the first one isn't asked for, either.
		want{-4, "func main() { var x = 0; while true { x = x + 1; } }"})
}
