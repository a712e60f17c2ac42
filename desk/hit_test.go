package desk_test

import (
	"fmt"
	"slices"
	"strings"
	"testing"

	"rewind/desk"
	"rewind/world"
)

// wantHits: the records at which run stops, from the beginning to the end, and rerun, from the end to the beginning; and so from each place in between. It leaves the desk at the end.
func wantHits(t *testing.T, d *desk.Desk, want ...int) {
	t.Helper()
	for at := 0; at <= d.Len(); at++ {
		goTo(t, d, at)
		behind := slices.IndexFunc(want, func(x int) bool { return x > at })
		if behind < 0 {
			wantTold(t, d, fmt.Sprintf("run: %d clamped", d.Len()))
		} else {
			wantTold(t, d, fmt.Sprintf("run: %d", want[behind]))
		}
		goTo(t, d, at)
		ahead := 0
		for ahead < len(want) && want[ahead] < at {
			ahead++
		}
		if ahead == 0 {
			wantTold(t, d, "rerun: 0 clamped")
		} else {
			wantTold(t, d, fmt.Sprintf("rerun: %d", want[ahead-1]))
		}
	}
	goTo(t, d, d.Len())
}

func TestBreaks(t *testing.T) {
	d := ofTurns(t)
	wantHits(t, d)
	wantTold(t, d, "break 5: 19 [5]")
	wantHits(t, d, 3, 4, 6, 7)
	wantTold(t, d, "break 8: 19 [5 8]", "break 2: 19 [2 5 8]", "break 5: 19 error 7", "clear 3: 19 error 17")
	wantHits(t, d, 0, 3, 4, 6, 7, 10, 11)
	wantTold(t, d, "clear 5: 19 [2 8]", "clear 5: 19 error 17", "list: 19 [2 8]", "clear 2: 19 [8]", "clear 8: 19", "list: 19")
	wantHits(t, d)
	// The line of main's head, one in which a block ends, one that there isn't, and some that no record begins on, as it is not where a statement ends.
	wantTold(t, d, "break 1: 19 [1]", "break 6: 19 [1 6]", "break 0: 19 [0 1 6]", "break 999999: 19 [0 1 6 999999]", "break 15: 19 [0 1 6 15 999999]", "break 11: 19 [0 1 6 11 15 999999]")
	wantHits(t, d)
	wantTold(t, d, "go 12: 12", "break 13: 12 [0 1 6 11 13 15 999999]", "break 10: 12 [0 1 6 10 11 13 15 999999]")
	wantHits(t, d, 12, 13, 16, 18)
}

// A statement begins on one line, whatever lines it goes on to.
func TestBreaksOfLongStatements(t *testing.T) {
	text := "# first\nfunc main() { var x\n=\n1; while\nx < 3\n{\nx = x\n+ 1; } print x\n;\n}"
	d := opened(t, text, world.World{Steps: 50}, 4, 1)
	// 0 var, 1 while, 2 x =, 3 while, 4 x =, 5 while, 6 print.
	goTo(t, d, 7)
	for line, want := range [][]int{0: {}, 1: {}, 2: {0}, 3: {}, 4: {1, 3, 5}, 5: {}, 6: {}, 7: {2, 4}, 8: {6}, 9: {}, 10: {}, 11: {}} {
		wantTold(t, d, fmt.Sprintf("break %d: %d [%d]", line, d.Len(), line))
		wantHits(t, d, want...)
		wantTold(t, d, fmt.Sprintf("clear %d: %d", line, d.Len()))
	}
}

func TestAtMostTwentyBreaks(t *testing.T) {
	d := ofTurns(t)
	var all []string
	for n := range 20 {
		all = append(all, fmt.Sprint(100+n))
		wantTold(t, d, fmt.Sprintf("break %d: 0 [%s]", 100+n, strings.Join(all, " ")))
	}
	full := "list: 0 [" + strings.Join(all, " ") + "]"
	wantTold(t, d, full, "break 120: 0 error 5", "break 3: 0 error 5", "break 100: 0 error 7", "break 119: 0 error 7", "clear 99: 0 error 17", full)
	wantTold(t, d, "watch n: 0 error 6", "step: 1", "watch a[0]: 1 [1]")
	wantTold(t, d, "clear 119: 1 ["+strings.Join(all[:19], " ")+"]", "break 3: 1 [3 "+strings.Join(all[:19], " ")+"]", "break 119: 1 error 5")
}

func TestWatches(t *testing.T) {
	d := ofTurns(t)
	// The array isn't there as the record 0 begins, and is noughts as 1 does; 3 puts 4 into its first place.
	wantTold(t, d, "go 9: 9", "watch a[0]: 9 [1]")
	wantHits(t, d, 1, 4)
	wantTold(t, d, "go 5: 5", "watch a[0]: 5 error 7", "watch a[1]: 5 [2]")
	wantHits(t, d, 1, 4, 7)
	wantTold(t, d, "go 3: 3", "drop a[0]: 3 [1]", "drop a[0]: 3 error 17")
	wantHits(t, d, 1, 7)
	wantTold(t, d, "go 18: 18", "drop a[1]: 18 [0]", "drop a[1]: 18 error 17")
	wantHits(t, d)
	// A variable of main's is there all the time; that it is written, with what it is already, is no change.
	wantTold(t, d, "go 2: 2", "watch i: 2 [1]")
	wantHits(t, d, 5, 8)
	wantTold(t, d, "go 15: 15", "watch x: 15 [2]")
	wantHits(t, d, 5, 8, 15)
	wantTold(t, d, "go 7: 7", "break 9: 7 [9]", "break 10: 7 [9 10]", "drop i: 7 [1]")
	wantHits(t, d, 15, 18)
}

// A call's names come with it, and go with it; another call of the function has its own.
func TestWatchesOfCalls(t *testing.T) {
	d := ofTurns(t)
	wantTold(t, d, "go 13: 13", "watch n: 13 [1]")
	wantHits(t, d, 12, 14, 15)
	wantTold(t, d, "go 17: 17", "drop n: 17 error 17", "watch n: 17 [2]")
	wantHits(t, d, 12, 14, 15, 16, 18)
	wantTold(t, d, "go 12: 12", "drop n: 12 [1]")
	wantHits(t, d, 16, 18)
	// A call that is given 0 has a value that its slots have, too, till they are written: it is there only at one of both.
	text := "func main() { f(0); f(0); }\nfunc f(n) { print n; n = 0; print n; }"
	d = opened(t, text, world.World{Steps: 50}, 2, 2)
	wantTold(t, d, "go 2: 2", "watch n: 2 [1]")
	wantHits(t, d, 1, 4)
	wantTold(t, d, "go 7: 7", "watch n: 7 [2]")
	wantHits(t, d, 1, 4, 5)
}

// While what it calls runs, a call is there, with its names' values.
func TestWatchesOfCallsThatCall(t *testing.T) {
	text := "func main() { var x = 1; x = f(x) + f(x); print x; }\nfunc f(n) int { var a[1]; a[0] = n; if n < 3 { n = f(n + 1); } return n + a[0]; }"
	d := opened(t, text, world.World{Steps: 50}, 5, 1)
	// 0 var, 1 x =; the call 1: 2 var a, 3 a[0], 4 if, 5 n =; the call 2: 6, 7, 8, 9; the call 3: 10 var a, 11 a[0], 12 if, 13 return; 14 the call 2's return; 15 the call 1's; 16 on to 29 the second f(x); 30 print.
	wantTold(t, d, "step: 1", "watch x: 1 [1]")
	wantHits(t, d, 1, 30)
	wantTold(t, d, "go 4: 4", "drop x: 4 error 6", "watch n: 4 [2]", "watch a[0]: 4 [3]")
	// a[0] comes at 3 and is 1 at 4; the call comes at 2; n is what came back at 15; they are gone at 16.
	wantHits(t, d, 1, 2, 3, 4, 15, 16, 30)
}

func TestAtMostTwentyWatches(t *testing.T) {
	d := opened(t, "func main() { var a[30]; var b[30]; var x = 0; while x < 30 { a[x] = x; x = x + 1; } }", world.World{Steps: 200}, 9, 2)
	goTo(t, d, 3)
	for n := range 20 {
		wantTold(t, d, fmt.Sprintf("watch a[%d]: 3 [%d]", n, n+1))
	}
	wantTold(t, d, "watch a[20]: 3 error 5", "watch b[0]: 3 error 5", "watch x: 3 error 5", "watch a[0]: 3 error 7", "watch a[19]: 3 error 7", "drop b[0]: 3 error 17", "drop x: 3 error 17", "break 7: 3 [7]")
	wantTold(t, d, "drop a[7]: 3 [19]", "watch b[7]: 3 [20]", "watch a[7]: 3 error 5")
	var want []int
	for n := 1; n < 20; n++ {
		if n != 7 {
			want = append(want, 5+3*n)
		}
	}
	wantHits(t, d, append([]int{1, 2}, want...)...)
}

// drop's List is how many there are: 0, when none is.
func TestWatchesAreCounted(t *testing.T) {
	d := ofTurns(t)
	wantTold(t, d, "go 15: 15", "watch x: 15 [1]", "watch i: 15 [2]", "watch a[0]: 15 [3]", "watch a[1]: 15 [4]", "watch i: 15 error 7", "drop i: 15 [3]", "drop i: 15 error 17", "watch i: 15 [4]", "list: 15", "drop x: 15 [3]", "drop a[1]: 15 [2]", "drop a[0]: 15 [1]", "drop i: 15 [0]")
}
