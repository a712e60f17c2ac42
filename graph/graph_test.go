package graph_test

import (
	"fmt"
	"math"
	"slices"
	"strings"
	"testing"

	"rewind/api"
	"rewind/check"
	"rewind/code"
	"rewind/flow"
	"rewind/graph"
	"rewind/make"
	"rewind/syntax"
	"rewind/world"
)

// built: a text's code and flow, which must be right.
func built(t *testing.T, text string) (code.Code, flow.Graph) {
	t.Helper()
	p, at, e := syntax.Parse(text)
	info, where, f := check.Check(p)
	c, g := make.Make(p, info)
	if e != api.OK || f != api.OK || g != api.OK {
		t.Fatalf("no code of %.2000q: Parse %d, %d; Check %d, %d; Make %d", text, at, e, where, f, g)
	}
	return c, flow.Of(p)
}

func opened(t *testing.T, text string, w world.World, pace, room int) *graph.Graph {
	t.Helper()
	c, f := built(t, text)
	g, e := graph.New(c, w, f, pace, room)
	if e != api.OK || g == nil {
		t.Fatalf("P16.1: New of %.2000q: %d, want a graph", text, e)
	}
	return g
}

// told: what a graph says of a record: its number, each spot that it reads (a call, a slot, a place, if it has one) with the writer, and the record that let it run.
func told(t *testing.T, g *graph.Graph, record int) string {
	t.Helper()
	reads, e := g.Reads(record)
	by, f := g.By(record)
	if e != api.OK || f != api.OK {
		t.Errorf("P16.1: of the record %d of %d: Reads %d, By %d, want no error", record, g.Len(), e, f)
	}
	out := fmt.Sprint(record, ":")
	for _, x := range reads {
		out += fmt.Sprintf(" %d.%d", x.Spot.Call, x.Spot.Slot)
		if x.Spot.Place != -1 {
			out += fmt.Sprintf("[%d]", x.Spot.Place)
		}
		out += fmt.Sprint("<", x.Writer)
	}
	return out + fmt.Sprint(" by ", by)
}

func toldAll(t *testing.T, g *graph.Graph) []string {
	t.Helper()
	var out []string
	for record := range g.Len() {
		out = append(out, told(t, g, record))
	}
	return out
}

// twelve has so many records, of which the calls' are 3 and 4, 8 and 9; read, print, an array, and both ways of an if are among them.
const twelve = "func main() { var a[2]; var x = read; a[1] = f(x); if a[1] > 3 { print a[1]; } a[0] = f(a[1] - 9); if a[0] < 0 { print x; } }\nfunc f(n) int { n = n * 2; return n; }"

var fits = world.World{Steps: 50, Inputs: []int{4, 1, 0, 2}}

// Of twelve, in the world fits.
var toldOfTwelve = []string{
	"0: by -1", "1: by -1", "2: 0.1<1 1.-1<4 by -1", "3: 1.0<2 by 2", "4: 1.0<3 by 2", "5: 0.0[1]<2 by -1",
	"6: 0.0[1]<2 by 5", "7: 0.0[1]<2 2.-1<9 by -1", "8: 2.0<7 by 7", "9: 2.0<8 by 7", "10: 0.0[0]<7 by -1", "11: 0.1<1 by 10",
}

// wantTold: what a graph says of all records of a program, with any pace and room, and in what order it is ever asked.
func wantTold(t *testing.T, text string, w world.World, want ...string) {
	t.Helper()
	for _, pace := range []int{1, 2, 3, 5, 7, 1000} {
		for _, room := range []int{1, 2, 1000} {
			g := opened(t, text, w, pace, room)
			if g.Len() != len(want) {
				t.Fatalf("P16.1: %s\nhas %d records, want %d", text, g.Len(), len(want))
			}
			if got := toldAll(t, g); !slices.Equal(got, want) {
				t.Fatalf("P16.1: with the pace %d, the room %d, of\n%s\nit says\n%s\nwant\n%s", pace, room, text, strings.Join(got, "\n"), strings.Join(want, "\n"))
			}
			for record := g.Len() - 1; record >= 0; record-- {
				if got := told(t, g, record); got != want[record] {
					t.Fatalf("P16.1: asked from behind, with the pace %d, the room %d, it says %s, want %s, of\n%s", pace, room, got, want[record], text)
				}
			}
		}
	}
}

func TestReads(t *testing.T) {
	for _, x := range []struct{ text, want string }{
		{"func main() { var x = 1; print x; }", "0: by -1; 1: 0.0<0 by -1"},
		{"func main() { var x = 1; x = x + x; print x - x * x; }", "0: by -1; 1: 0.0<0 0.0<0 by -1; 2: 0.0<1 0.0<1 0.0<1 by -1"},
		// Each place of an array has its own writer; the array's making is one, each time.
		{"func main() { var a[3]; a[1] = 5; print a[0] + a[1]; a[a[1] - 5] = a[1]; print a[0]; }",
			"0: by -1; 1: by -1; 2: 0.0[0]<0 0.0[1]<1 by -1; 3: 0.0[1]<1 0.0[1]<1 by -1; 4: 0.0[0]<3 by -1"},
		{"func main() { var i = 0; while i < 2 { var a[2]; print a[i]; a[i] = 1; print a[i]; i = i + 1; } }",
			"0: by -1; 1: 0.0<0 by -1; 2: by 1; 3: 0.0<0 0.1[0]<2 by 1; 4: 0.0<0 by 1; 5: 0.0<0 0.1[0]<4 by 1; 6: 0.0<0 by 1; 7: 0.0<6 by 1; 8: by 7; 9: 0.0<6 0.1[1]<8 by 7; 10: 0.0<6 by 7; 11: 0.0<6 0.1[1]<10 by 7; 12: 0.0<6 by 7; 13: 0.0<12 by 7"},
		{twelve, strings.Join(toldOfTwelve, "; ")},
		// What is given to a call is written by who calls; what it answers by its return, or by none.
		{"func main() { var x = 1; print f(x, x) + f(2, x) + x; }\nfunc f(a, b) int { return b - a; }",
			"0: by -1; 1: 0.0<0 0.0<0 1.-1<2 0.0<0 2.-1<3 0.0<0 by -1; 2: 1.1<1 1.0<1 by 1; 3: 2.1<1 2.0<1 by 1"},
		{"func main() { print f(f(1)); print n(n(1)); }\nfunc f(x) int { x = x + 1; return x; }\nfunc n(x) int { }",
			"0: 1.-1<2 2.-1<4 by -1; 1: 1.0<0 by 0; 2: 1.0<1 by 0; 3: 2.0<0 by 0; 4: 2.0<3 by 0; 5: 3.-1<-1 4.-1<-1 by -1"},
		{"func main() { var x = 1; print f(x) + x; print none() + x; g(x); }\nfunc f(n) int { if n == 0 { return 1; } }\nfunc none() int { }\nfunc g(n) { return; }",
			"0: by -1; 1: 0.0<0 1.-1<-1 0.0<0 by -1; 2: 1.0<1 by 1; 3: 2.-1<-1 0.0<0 by -1; 4: 0.0<0 by -1; 5: by 4"},
		{"func main() { print f(2); }\nfunc f(n) int { if n == 0 { return n; } n = n + f(n - 1); return n; }",
			"0: 1.-1<8 by -1; 1: 1.0<0 by 0; 2: 1.0<0 1.0<0 2.-1<7 by 1; 3: 2.0<2 by 2; 4: 2.0<2 2.0<2 3.-1<6 by 3; 5: 3.0<4 by 4; 6: 3.0<4 by 5; 7: 2.0<4 by 3; 8: 1.0<2 by 1"},
		// A second part that is left out reads nothing.
		{"func main() { var x = 0; if false && x == 1 || x == 2 { } if true || x == 1 { } if true && x == 1 { } }",
			"0: by -1; 1: 0.0<0 by -1; 2: by -1; 3: 0.0<0 by -1"},
		// What is ahead of an error is read.
		{"func main() { var x = 0; var a[2]; print x + 1 / x + x; }", "0: by -1; 1: by -1; 2: 0.0<0 0.0<0 by -1"},
		{"func main() { var x = 2; var a[2]; print a[1] + a[x] + x; }", "0: by -1; 1: by -1; 2: 0.1[1]<1 0.0<0 by -1"},
	} {
		wantTold(t, x.text, fits, strings.Split(x.want, "; ")...)
	}
}

func TestBy(t *testing.T) {
	for _, x := range []struct{ text, want string }{
		{"func main() { print 1; if true { print 2; print 3; } else { print 4; } print 5; }", "-1 -1 1 1 -1"},
		{"func main() { if false { print 2; } else { print 4; print 4; } print 5; }", "-1 0 0 -1"},
		{"func main() { if true { if true { print 1; } print 2; } print 3; }", "-1 0 1 0 -1"},
		{"func main() { if true { } print 1; if false { } else { } print 2; }", "-1 -1 -1 -1"},
		{"func main() { if false { print 1; } else if true { print 2; } else { print 3; } print 4; }", "-1 0 1 -1"},
		{"func main() { var x = 0; while x < 2 { x = x + 1; print x; } print x; }", "-1 -1 1 1 1 4 4 4 -1"},
		{"func main() { while read > 0 { } print 1; }", "-1 0 1 -1"},
		// Behind a jump that may be, all hangs on that it wasn't.
		{"func main() { var x = 0; while x < 3 { x = x + 1; if x == 2 { break; } print x; } print x; }", "-1 -1 1 1 3 3 5 5 7 -1"},
		{"func main() { var x = 0; while x < 2 { x = x + 1; if x == 1 { continue; } print x; } print x; }", "-1 -1 1 1 3 1 5 5 7 5 -1"},
		{"func main() { if false { return; } print 1; if false { return; } print 2; }", "-1 0 0 2"},
		{"func main() { while true { if read == 0 { return; } print 1; } }", "-1 0 1 1 3 4 4 6 7"},
		{"func main() { var x = 0; while x < 2 { x = x + 1; while true { if x > 0 { break; } } } }", "-1 -1 1 1 3 4 1 6 6 8 9 6"},
		// The way that was taken last is the one, not one of a time ahead.
		{"func main() { var x = 0; while x < 3 { x = x + 1; if x == 2 { print 2; } else { print 1; } } print x; }", "-1 -1 1 1 3 1 5 5 7 5 9 9 11 9 -1"},
		{"func main() { var x = 0; while x < 2 { x = x + 1; var y = 0; while y < 1 { y = y + 1; } print y; } print x; }", "-1 -1 1 1 1 4 4 1 1 8 8 8 11 11 8 8 -1"},
		// What no if or while of its own call let run was let run by who calls, wherever that stands.
		{"func main() { f(2); print 1; }\nfunc f(n) { if n > 0 { f(n - 1); } print n; }", "-1 0 1 2 3 4 4 2 0 -1"},
		{"func main() { if true { f(); } }\nfunc f() { if true { g(); print 1; } print 2; }\nfunc g() { print 3; }", "-1 0 1 2 3 2 1"},
		{"func main() { if f(1) > 0 { print f(0); } while f(0) < 0 { } print 3; }\nfunc f(n) int { if n > 0 { return 1; } print n; }", "-1 0 1 0 3 4 -1 6 7 -1"},
	} {
		g := opened(t, x.text, fits, 3, 2)
		var got []string
		for record := range g.Len() {
			by, e := g.By(record)
			if e != api.OK {
				t.Errorf("P16.1: By(%d): %d, want no error", record, e)
			}
			got = append(got, fmt.Sprint(by))
		}
		if s := strings.Join(got, " "); s != x.want {
			t.Errorf("P16.1: of\n%s\neach record was let run by\n%s\nwant\n%s", x.text, s, x.want)
		}
		wantTold(t, x.text, fits, toldAll(t, g)...)
	}
}

// A program that is cut off, where its steps are spent, says of what it did till there what it says of that else.
func TestFewerSteps(t *testing.T) {
	c, f := built(t, twelve)
	for steps := range 12 {
		g, e := graph.New(c, world.World{Steps: steps, Inputs: []int{4}}, f, 5, 1)
		if e != api.OK || g.Len() != steps {
			t.Fatalf("P16.1: with %d steps: %d, %d records", steps, e, g.Len())
		}
		for record, got := range toldAll(t, g) {
			want := toldOfTwelve[record]
			if steps == 3 && record == 2 || steps == 4 && record == 2 || (steps == 8 || steps == 9) && record == 7 {
				// Its call didn't end, so what that answers wasn't read.
				want = strings.NewReplacer(" 1.-1<4", "", " 2.-1<9", "").Replace(want)
			}
			if got != want {
				t.Errorf("P16.1: with %d steps it says %s, want %s", steps, got, want)
			}
		}
	}
}

func TestNoSuchRecord(t *testing.T) {
	for _, room := range []int{1, 3} {
		g := opened(t, twelve, fits, 2, room)
		for _, record := range []int{-1, -2, 12, 13, 1000, api.MaxSteps, math.MinInt, math.MaxInt} {
			kept, made := g.Kept(), g.Made()
			if l, e := g.Reads(record); e != api.ErrRange || len(l) != 0 {
				t.Errorf("P16.1: Reads(%d) of 12 records: %v, %d, want none, %d", record, l, e, api.ErrRange)
			}
			if by, e := g.By(record); e != api.ErrRange || by != 0 {
				t.Errorf("P16.1: By(%d) of 12 records: %d, %d, want 0, %d", record, by, e, api.ErrRange)
			}
			if g.Kept() != kept || g.Made() != made {
				t.Errorf("P7: asked for the record %d, which there isn't, it has %d windows, and made %d; ahead of that %d, %d", record, g.Kept(), g.Made(), kept, made)
			}
			told(t, g, 11)
			told(t, g, 0)
		}
	}
}

func TestNoRecords(t *testing.T) {
	for _, g := range []*graph.Graph{
		opened(t, "func main() { }", fits, 1, 1),
		opened(t, "func main() { print 1; }", world.World{}, 1000, 1000),
	} {
		_, e := g.Reads(0)
		_, f := g.By(0)
		if g.Len() != 0 || e != api.ErrRange || f != api.ErrRange || g.Kept() != 0 || g.Made() != 0 {
			t.Errorf("P16.1: of a program without records: Len %d, Reads(0) %d, By(0) %d, %d windows, %d made", g.Len(), e, f, g.Kept(), g.Made())
		}
	}
}

func TestNewOfWhatIsWrong(t *testing.T) {
	c, f := built(t, twelve)
	early, _ := built(t, twelve)
	early.List = early.List[:len(early.List)-1]
	params, _, e := code.Parse("proc f 1 1 4\nreturn 0\n")
	if e != api.OK {
		t.Fatal(e)
	}
	tooLong := world.World{Steps: api.MaxSteps + 1}
	for _, x := range []struct {
		c    code.Code
		w    world.World
		want api.Errno
	}{
		{code.Code{}, fits, api.ErrParse}, {early, fits, api.ErrParse}, {early, tooLong, api.ErrParse}, {code.Code{}, world.World{Steps: -1}, api.ErrParse},
		{c, tooLong, api.ErrRange}, {c, world.World{Steps: -1}, api.ErrRange}, {c, world.World{Inputs: slices.Repeat([]int{0}, 1001)}, api.ErrRange}, {params, fits, api.ErrRange},
	} {
		for _, pace := range []int{-1, 1, 7, 1001} {
			if g, e := graph.New(x.c, x.w, f, pace, pace); g != nil || e != x.want {
				t.Errorf("P16.1: New of %d instructions, %d steps, %d inputs: %v, %d, want none, %d", len(x.c.List), x.w.Steps, len(x.w.Inputs), g, e, x.want)
			}
		}
	}
}

// A pace and a room that may not be are as near as they may.
func TestAnyPaceAndRoom(t *testing.T) {
	for _, x := range []struct{ told, want int }{
		{0, 1}, {-1, 1}, {math.MinInt, 1}, {1, 1}, {2, 2}, {999, 999}, {1000, 1000}, {1001, 1000}, {math.MaxInt, 1000},
	} {
		g := opened(t, twelve, fits, x.told, x.told)
		if got := toldAll(t, g); g.Pace() != x.want || !slices.Equal(got, toldOfTwelve) {
			t.Errorf("P16.1: told the pace %d it has %d, want %d, and says\n%s", x.told, g.Pace(), x.want, strings.Join(got, "\n"))
		}
		g = opened(t, "func main() { while true { } }", world.World{Steps: 1100}, 1, x.told)
		toldAll(t, g)
		if g.Kept() != x.want || g.Made() != 1100 {
			t.Errorf("P16.2: told the room %d it has %d windows of %d, want %d", x.told, g.Kept(), g.Made(), x.want)
		}
	}
}

func wantWindows(t *testing.T, g *graph.Graph, kept, made int) {
	t.Helper()
	if g.Kept() != kept || g.Made() != made {
		t.Errorf("P16.1: %d windows are kept, %d were made, want %d, %d", g.Kept(), g.Made(), kept, made)
	}
}

// Windows are of as many records as the pace; one that isn't there any more is made anew.
func TestWindows(t *testing.T) {
	loop := "func main() { var x = 0; while true { x = x + 1; } }"
	g := opened(t, loop, world.World{Steps: 20}, 5, 2)
	wantWindows(t, g, 0, 0)
	for _, x := range []struct{ record, kept, made int }{
		{0, 1, 1}, {4, 1, 1}, {5, 2, 2}, {9, 2, 2}, {0, 2, 2}, {10, 2, 3}, {3, 2, 3}, {14, 2, 3}, {6, 2, 4}, {3, 2, 5}, {19, 2, 6}, {15, 2, 6},
	} {
		g.Reads(x.record)
		wantWindows(t, g, x.kept, x.made)
		g.By(x.record)
		wantWindows(t, g, x.kept, x.made)
	}
	for _, x := range []struct{ pace, room, kept, made int }{
		{1, 1000, 20, 20}, {1, 1, 1, 20}, {3, 1000, 7, 7}, {3, 2, 2, 7}, {4, 4, 4, 5}, {4, 5, 5, 5}, {19, 9, 2, 2}, {20, 9, 1, 1}, {21, 9, 1, 1}, {1000, 1, 1, 1},
	} {
		g := opened(t, loop, world.World{Steps: 20}, x.pace, x.room)
		toldAll(t, g)
		wantWindows(t, g, x.kept, x.made)
		if x.kept == x.made {
			toldAll(t, g)
			wantWindows(t, g, x.kept, x.made)
		}
	}
}
