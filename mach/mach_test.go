package mach_test

import (
	"fmt"
	"math"
	"slices"
	"strings"
	"testing"

	"rewind/api"
	"rewind/check"
	"rewind/code"
	"rewind/mach"
	"rewind/make"
	"rewind/syntax"
	"rewind/world"
)

// right: a text's program, which must be right, and what is known of it.
func right(t *testing.T, text string) (api.Tree, check.Info) {
	t.Helper()
	p, at, e := syntax.Parse(text)
	if e != api.OK {
		t.Fatalf("Parse(%.2000q): %d, %d, want a program", text, at, e)
	}
	info, at, e := check.Check(p)
	if e != api.OK {
		t.Fatalf("Check of %.2000q: %d, %d, want a right program", text, at, e)
	}
	return p, info
}

// built: a text's code.
func built(t *testing.T, text string) code.Code {
	t.Helper()
	c, e := make.Make(right(t, text))
	if e != api.OK {
		t.Fatalf("Make of %.2000q: %d, want code", text, e)
	}
	return c
}

func started(t *testing.T, c code.Code, steps int, inputs ...int) *mach.Machine {
	t.Helper()
	m, e := mach.New(c, world.World{Steps: steps, Inputs: inputs})
	if e != api.OK || m == nil {
		t.Fatalf("P13.1: New: %v, %d, want a machine", m, e)
	}
	return m
}

// inMain: a main of some statements, and functions that they may call.
func inMain(body string) string {
	return "func main() { " + body + " }\nfunc say(n) int { print n; return n; }\nfunc none() int { }\nfunc nothing() { }"
}

// ending: what a machine tells behind its end.
func ending(m *mach.Machine) string {
	over, e := m.Ended()
	return fmt.Sprintf("%t %d, %d steps, %d taken: %s", over, e, m.Steps(), m.Taken(), strings.Join(strings.Fields(m.Out()), " "))
}

// wantEnd: how a program ends, how many statements begin, how many inputs it takes, and what it prints. It goes on to the end, and stays there.
func wantEnd(t *testing.T, text string, in world.World, end api.Errno, steps, taken int, out ...string) {
	t.Helper()
	m := started(t, built(t, text), in.Steps, in.Inputs...)
	for n := range steps {
		if !m.Next() {
			t.Fatalf("P13.1: %.1000s\nthe Next ahead of the statement %d: false; %s", text, n, ending(m))
		}
		if over, e := m.Ended(); over || e != api.OK || m.Steps() != n+1 {
			t.Fatalf("P13.1: %.1000s\nas the statement %d begins: %s", text, n, ending(m))
		}
	}
	want := fmt.Sprintf("true %d, %d steps, %d taken: %s", end, steps, taken, strings.Join(out, " "))
	for range 3 {
		if m.Next() || ending(m) != want || len(m.Frames()) != 0 {
			t.Fatalf("P13.1: %.1000s\n%s; frames %v\nwant\n%s", text, ending(m), m.Frames(), want)
		}
	}
}

// wantPrinted: what some statements print; the inputs are 7, 8, 9.
func wantPrinted(t *testing.T, body string, out ...string) {
	t.Helper()
	m := started(t, built(t, inMain(body)), 500, 7, 8, 9)
	for m.Next() {
	}
	want := strings.Join(append(out, ""), "\n")
	if over, e := m.Ended(); !over || e != api.OK || m.Out() != want {
		t.Errorf("P13.1: %s\n%s, want it to end with 0 and to print %q", body, ending(m), want)
	}
}

func TestShow(t *testing.T) {
	for n, want := range map[int]string{0: "0", 7: "7", -5: "-5", math.MaxInt: "9223372036854775807", math.MinInt: "-9223372036854775808"} {
		if got := mach.Show(api.Int, n); got != want {
			t.Errorf("P13.1: Show of the int %d: %q, want %q", n, got, want)
		}
	}
	for n, want := range []string{"false", "true"} {
		if got := mach.Show(api.Bool, n); got != want {
			t.Errorf("P13.1: Show of the bool %d: %q, want %q", n, got, want)
		}
	}
	for _, kind := range []int{0, api.List, api.Unit, -1, 5, math.MaxInt} {
		if got := mach.Show(kind, 1); got != "" {
			t.Errorf("Show of a kind that is never printed, %d: %q", kind, got)
		}
	}
}

func wantNoMachine(t *testing.T, c code.Code, w world.World, want api.Errno) {
	t.Helper()
	if m, e := mach.New(c, w); m != nil || e != want {
		t.Errorf("P13.1: New of %v, %d steps, %d inputs: %v, %d, want %d", c, w.Steps, len(w.Inputs), m, e, want)
	}
}

func parsed(t *testing.T, lines ...string) code.Code {
	t.Helper()
	c, line, e := code.Parse(strings.Join(lines, "\n") + "\n")
	if e != api.OK {
		t.Fatalf("Parse of %q: %d, %d, want code", lines, line, e)
	}
	return c
}

func TestNewOfWhatIsWrong(t *testing.T) {
	good, params := built(t, "func main() { print 1; }"), parsed(t, "proc f 1 1 4", "return 0")
	fits, none := world.World{Steps: 9}, code.Code{}
	early := built(t, "func main() { print 1; }")
	early.List = early.List[:len(early.List)-1]
	bad := []code.Code{none, early, {Procs: good.Procs}, {List: good.List}}
	mayNotBe := []world.World{{Steps: -1}, {Steps: api.MaxSteps + 1}, {Inputs: slices.Repeat([]int{0}, 1001)}, {Steps: math.MinInt, Inputs: []int{1}}}
	for _, c := range bad {
		wantNoMachine(t, c, fits, api.ErrParse)
		for _, w := range mayNotBe {
			wantNoMachine(t, c, w, api.ErrParse)
		}
	}
	for _, w := range mayNotBe {
		wantNoMachine(t, good, w, api.ErrRange)
		wantNoMachine(t, params, w, api.ErrRange)
	}
	wantNoMachine(t, params, fits, api.ErrRange)
	for _, w := range []world.World{{}, {Steps: api.MaxSteps}, {Inputs: slices.Repeat([]int{0}, 1000)}} {
		started(t, good, w.Steps, w.Inputs...)
	}
}

// Ahead of everything there is nothing, and nothing has ended, also of programs that end without a statement.
func TestAheadOfEverything(t *testing.T) {
	for _, text := range []string{"func main() { }", "func main() { var x = read; print x; }", "func main() { main(); }"} {
		for steps := range 3 {
			m := started(t, built(t, text), steps, 5)
			for range 2 {
				if got := ending(m); got != "false 0, 0 steps, 0 taken: " || len(m.Frames()) != 0 || len(m.Touches()) != 0 {
					t.Errorf("P13.1: %s\nahead of everything: %s, %v, %v", text, got, m.Frames(), m.Touches())
				}
			}
		}
	}
}

func TestOrdinaryPrograms(t *testing.T) {
	in := world.World{Steps: 1000, Inputs: []int{3, 5, 1, 4, 2}}
	for n, want := range []struct {
		steps, taken int
		out          string
	}{
		{0, 0, ""},
		{11, 0, "2"},
		{8, 1, "0 false"},
		{49, 0, "1 3 5 7 14"},
		{219, 0, "34"},
		{101, 5, "1 2 3 4 5"},
		{34, 5, "15 5 3"},
		{102, 0, "2 3 5 7 11 13"},
		{103, 0, "1 2 1 3 1 2 1 7"},
		{9, 2, "false true false 0"},
	} {
		wantEnd(t, ordinary[n], in, api.OK, want.steps, want.taken, strings.Fields(want.out)...)
	}
}

// ordinary: programs that have all kinds of statements and expressions.
var ordinary = []string{
	"func main() { }",
	"func main() { var x = 1; while x < 3 { if x == 2 { break; } x = x + f(x); continue; } print x; }\nfunc f(n) int { if n > 0 && n < 9 || false { return n; } }",
	"func main() { var a[3]; a[0] = read; print -a[1]; print !true; g(); f(1); }\nfunc f(n) int { return n; }\nfunc g() { return; }",
	"func main() { var n = 0; while true { n = n + 1; if n % 2 == 0 { continue; } else if n > 8 { while true { if n < 12 { n = n + 5; } else { break; } } break; } print n; } print n; }",
	"func main() { print fib(9); }\nfunc fib(n) int { if n < 2 { return n; } return fib(n - 1) + fib(n - 2); }",
	"func main() { var a[5]; var i = 0; while i < 5 { a[i] = read; i = i + 1; } var j = 0; while j < 4 { i = 0; while i < 4 - j { if a[i] > a[i + 1] { var x = a[i]; a[i] = a[i + 1]; a[i + 1] = x; } i = i + 1; } j = j + 1; } i = 0; while i < 5 { print a[i]; i = i + 1; } }",
	"func main() { var sum = 0; var most = 0; var n = 5; while n != 0 { var x = read; sum = sum + x; if x > most { most = x; } n = n - 1; } print sum; print most; print sum / 5; }",
	"func main() { var no[16]; var n = 2; while n < 16 { if no[n] == 0 { print n; var k = n + n; while k < 16 { no[k] = 1; k = k + n; } } n = n + 1; } }",
	"func main() { hanoi(3); print count(3) - count(0); }\nfunc hanoi(n) { if n == 0 { return; } hanoi(n - 1); print n; hanoi(n - 1); }\nfunc count(n) int { var a[2]; a[1] = n; while n > 0 { n = n - 1; a[0] = a[0] + count(n) + 1; } return a[0]; }",
	"func main() { var even = is(read) == 3; print !even; var both = even && is(read) == 5; print both; print both != (true || 1 / 0 == 1); nothing(); print none(); }\nfunc is(n) int { return n; }\nfunc none() int { }\nfunc nothing() { }",
}
