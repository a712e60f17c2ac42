package mach_test

import (
	"math"
	"slices"
	"strconv"
	"strings"
	"testing"

	"rewind/api"
	"rewind/mach"
	"rewind/world"
)

func with(steps int, inputs ...int) world.World { return world.World{Steps: steps, Inputs: inputs} }

func TestProgramsWithoutStatements(t *testing.T) {
	for _, steps := range []int{0, 1, api.MaxSteps} {
		wantEnd(t, "func main() { }", with(steps), api.OK, 0, 0)
		wantEnd(t, "func main() { }\nfunc f() { print 1; }", with(steps, 1), api.OK, 0, 0)
	}
}

func TestDividedByNought(t *testing.T) {
	wantEnd(t, "func main() { print 1 / 0; }", with(9), api.ErrZero, 1, 0)
	wantEnd(t, "func main() { print 1 % 0; }", with(9), api.ErrZero, 1, 0)
	wantEnd(t, "func main() { print 0 / 0; }", with(9), api.ErrZero, 1, 0)
	wantEnd(t, "func main() { print 5; print read % (1 - 1); print 6; }", with(9, 5, 6), api.ErrZero, 2, 1, "5")
	wantEnd(t, "func main() { print read / read; }", with(9, math.MinInt, 0), api.ErrZero, 1, 2)
	wantEnd(t, "func main() { var x = 3; while 6 / x > 0 { print x; x = x - 1; } }", with(99), api.ErrZero, 11, 0, "3", "2", "1")
	wantEnd(t, "func main() { print f(2) + 1; }\nfunc f(n) int { print n; return f(n - 1) + 1 / n; }", with(999), api.ErrStack, 127, 0, descending(2, 63)...)
	wantEnd(t, "func main() { print f(2) + 1; }\nfunc f(n) int { print n; return 1 / n + f(n - 1); }", with(99), api.ErrZero, 7, 0, "2", "1", "0")
}

// descending: so many ints, as texts.
func descending(from, many int) []string {
	var out []string
	for n := range many {
		out = append(out, strconv.Itoa(from-n))
	}
	return out
}

func TestNothingMoreToRead(t *testing.T) {
	wantEnd(t, "func main() { print read; }", with(9), api.ErrInput, 1, 0)
	wantEnd(t, "func main() { print read; print read; print read; }", with(9, -1, 7), api.ErrInput, 3, 2, "-1", "7")
	wantEnd(t, "func main() { var a[2]; a[read] = read; }", with(9, 5), api.ErrInput, 2, 1)
	wantEnd(t, "func main() { while read > 0 { print 1; } }", with(9, 5, 6), api.ErrInput, 5, 2, "1", "1")
}

func TestNoSuchPlace(t *testing.T) {
	for _, index := range []int{-1, 3, 4, 64, -3, 1 << 32, -1 << 32, math.MaxInt, math.MinInt} {
		for _, body := range []string{"print a[read];", "a[read] = 1;", "a[0] = a[read];", "a[a[read]] = 1;", "if a[read] == 0 { } else { }"} {
			wantEnd(t, "func main() { var a[3]; print 5; "+body+" print 6; }", with(99, index), api.ErrIndex, 3, 1, "5")
		}
	}
	for index := range 3 {
		wantEnd(t, "func main() { var a[3]; print a[read]; a[read] = 4; print a[read]; }", with(99, index, index, index), api.OK, 4, 3, "0", "4")
	}
	// Of an SPut it is told behind what is put.
	wantEnd(t, "func main() { var a[2]; a[2] = say(5); }\nfunc say(n) int { print n; return n; }", with(9), api.ErrIndex, 4, 0, "5")
	wantEnd(t, "func main() { var a[2]; a[-1] = 1 / 0; }", with(9), api.ErrZero, 2, 0)
	wantEnd(t, "func main() { var a[2]; a[5] = read; }", with(9), api.ErrInput, 2, 0)
	wantEnd(t, "func main() { var a[2]; a[a[7]] = read; }", with(9, 1), api.ErrIndex, 2, 0)
}

func TestTooManyCalls(t *testing.T) {
	wantEnd(t, "func main() { main(); }", with(999), api.ErrStack, 64, 0)
	wantEnd(t, "func main() { f(63); print 0; f(64); print 0; }\nfunc f(n) { print n; if n > 1 { f(n - 1); } }", with(9999), api.ErrStack, 3+188+3*63, 0, slices.Concat(descending(63, 63), []string{"0"}, descending(64, 63))...)
	// Those that have ended don't count; those without statements do.
	wantEnd(t, "func main() { var n = 0; while n < 200 { n = n + 1; f(); none(); } print n; }\nfunc f() { none(); }\nfunc none() { }", with(9999), api.OK, 1+201+800+1, 0, "200")
	wantEnd(t, "func main() { f(62); }\nfunc f(n) { if n > 1 { f(n - 1); } none(); print n; }\nfunc none() { }", with(9999), api.OK, 1+62*4-1, 0, ascending(62)...)
	wantEnd(t, "func main() { f(63); }\nfunc f(n) { if n > 1 { f(n - 1); } none(); print n; }\nfunc none() { }", with(9999), api.ErrStack, 1+63*2, 0)
	// Arguments come ahead of it.
	wantEnd(t, "func main() { f(63, 1); }\nfunc f(n, x) { if n > 1 { f(n - 1, 1); } else { f(0, 1 / 0); } }", with(9999), api.ErrZero, 1+63*2, 0)
	wantEnd(t, "func main() { f(63, 1); }\nfunc f(n, x) { if n > 1 { f(n - 1, 1); } else { f(0, read); } }", with(9999, 4), api.ErrStack, 1+63*2, 1)
}

func ascending(many int) []string {
	out := descending(many, many)
	slices.Reverse(out)
	return out
}

func TestAllStepsSpent(t *testing.T) {
	for steps := range 4 {
		wantEnd(t, "func main() { print 1; print 2; print 3; }", with(steps), map[bool]api.Errno{true: api.OK, false: api.ErrSpent}[steps == 3], steps, 0, strings.Fields("1 2 3")[:steps]...)
		wantEnd(t, "func main() { f(); }\nfunc f() { g(); }\nfunc g() { return; }", with(steps), map[bool]api.Errno{true: api.OK, false: api.ErrSpent}[steps == 3], steps, 0)
	}
	// A while begins each time that it comes.
	for steps := range 12 {
		wantEnd(t, "func main() { while true { } }", with(steps), api.ErrSpent, steps, 0)
		wantEnd(t, "func main() { while true { continue; } }", with(steps), api.ErrSpent, steps, 0)
	}
	wantEnd(t, "func main() { var x = 0; while x < 2 { x = x + 1; } }", with(6), api.OK, 6, 0)
	wantEnd(t, "func main() { var x = 0; while x < 2 { x = x + 1; } }", with(5), api.ErrSpent, 5, 0)
	wantEnd(t, "func main() { while true { print 1; } }", with(api.MaxSteps), api.ErrSpent, api.MaxSteps, 0, slices.Repeat([]string{"1"}, api.MaxSteps/2)...)
	// What comes ahead of the next statement comes ahead of it.
	wantEnd(t, "func main() { print 1; print 1 / 0; }", with(1), api.ErrSpent, 1, 0, "1")
	wantEnd(t, "func main() { print 1 / 0; print 1; }", with(1), api.ErrZero, 1, 0)
	wantEnd(t, "func main() { print read; print read; }", with(1, 5), api.ErrSpent, 1, 1, "5")
	wantEnd(t, "func main() { f(read, read); }\nfunc f(x, y) { print x; }", with(1, 5, 6), api.ErrSpent, 1, 2)
}

// Whatever is asked, a program that has ended stays as it is.
func TestBehindTheEnd(t *testing.T) {
	for _, text := range append(slices.Clone(ordinary), stock...) {
		m := started(t, built(t, text), 100, 3, 5, 1, 4, 2)
		for m.Next() {
		}
		want := momentOf(m, false)
		for range 2 {
			if got := momentOf(m.Copy(), false); got != want {
				t.Errorf("P13.1: a copy of what has ended, of\n%s\n%s\nwant\n%s", text, got, want)
			}
		}
		over, e := m.Ended()
		for range 2 {
			other := m.Copy()
			for _, x := range []*mach.Machine{m, other} {
				if b, f := x.Ended(); x.Next() || b != over || f != e || len(x.Touches()) != 0 || len(x.Frames()) != 0 || x.Out() != m.Out() || x.Steps() != m.Steps() || x.Taken() != m.Taken() {
					t.Errorf("P13.1: behind the end of\n%s\nit is %s", text, ending(x))
				}
			}
		}
	}
}
