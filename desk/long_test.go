package desk_test

import (
	"fmt"
	"slices"
	"strings"
	"testing"

	"rewind/api"
	"rewind/world"
)

var longest = world.World{Steps: api.MaxSteps}

// Each pace and room is told to a long run that prints much.
func TestTheLongestRun(t *testing.T) {
	text := "func main() { var x = 0; var y = 0; while true {\nx = x + 1; if x % 10000 == 0 {\ny = y + 1; }\nprint x * 1000000007; } }"
	for _, x := range []struct{ pace, room int }{{1, 1}, {10, 3}, {1000, 1}, {1000, 1000}} {
		d := opened(t, text, longest, x.pace, x.room)
		// A turn has 4 records, one in 10,000 has 5: y is another one at 2 + 40000 + 0 (the print behind it), and 40001 further on.
		wantTold(t, d, "run: 100000 clamped", "go 2: 2", "watch y: 2 [1]", "run: 40002", "run: 80003", "run: 100000 clamped", "rerun: 80003", "print y: 80003 value 2", "why y: 80003 [80002]", "rerun: 40002", "rerun: 0 clamped",
			"break 3: 0 [3]", "run: 40001", "run: 40002", "run: 80002", "go 99999: 99999", "print x: 99999 value 24999", "reached: 99999 [99996]", "start: 0 clamped", "go 99999: 99999", "next: 100000 clamped", "rerun: 80003", "rerun: 80002", "rerun: 40002", "rerun: 40001", "rerun: 0 clamped")
		for at := 99998; at > 99000; at -= 3 {
			goTo(t, d, at)
			wantTold(t, d, fmt.Sprintf("back: %d", at-1), fmt.Sprintf("step: %d", at), fmt.Sprintf("why y: %d [80002]", at), fmt.Sprintf("where: %d [%d]", at, d.Trace.Rows[at].Stmt))
		}
	}
}

// Watches that change all the time, in each record of a long run.
func TestRunsFromHitToHit(t *testing.T) {
	text := "func main() { var x = 0; while true { x = x + 1; print x; } }"
	for _, pace := range []int{1, 1000} {
		d := opened(t, text, longest, pace, 1)
		wantTold(t, d, "go 5: 5", "watch x: 5 [1]")
		for at := 6; at < 4000; at += 3 {
			wantTold(t, d, fmt.Sprintf("run: %d", at))
		}
		goTo(t, d, 100000)
		for at := 99999; at > 96000; at -= 3 {
			wantTold(t, d, fmt.Sprintf("rerun: %d", at))
		}
	}
}

// Twenty watches of the outermost call, while as many calls as may be are in one another, with all their arrays.
func TestManyWatchesInDeepCalls(t *testing.T) {
	var arrays, more strings.Builder
	for n := range 40 {
		fmt.Fprintf(&arrays, "var a%d[64]; ", n)
		fmt.Fprintf(&more, "a%d[n] = n; ", n)
	}
	text := "func main() { var a[64]; while true { f(0); } }\nfunc f(n) { " + arrays.String() + more.String() + "if n < 60 { f(n + 1); } }"
	d := opened(t, text, longest, 50, 2)
	goTo(t, d, 1)
	for n := range 20 {
		wantTold(t, d, fmt.Sprintf("watch a[%d]: 1 [%d]", n, n+1))
	}
	wantTold(t, d, "run: 100000 clamped", "rerun: 1", "rerun: 0 clamped")
	goTo(t, d, 99999)
	if r := d.Do("where"); len(r.List) < 2 {
		t.Errorf("P19.1: where: %s", told(r))
	}
}

// A text of many lines with many statements.
func TestManyLines(t *testing.T) {
	text := "func main() { var x = 0;" + strings.Repeat("\n\n\n\n\n\n\nx = x + 1;", 900) + strings.Repeat("\n", 4000) + "print x; }"
	d := opened(t, text, world.World{Steps: 2000}, 100, 3)
	wantTold(t, d, "break 8: 0 [8]", "break 6301: 0 [8 6301]", "break 10301: 0 [8 6301 10301]", "run: 1", "run: 900", "run: 901", "print x: 901 value 900", "run: 902 clamped", "rerun: 901", "rerun: 900", "rerun: 1", "rerun: 0 clamped", "go 500: 500", "clear 8: 500 [6301 10301]", "rerun: 0 clamped")
	if r := d.Do("go 901"); r.At != 901 {
		t.Fatal(told(r))
	}
	if r := d.Do("slice"); len(r.List) != 902 || !slices.IsSorted(r.List) {
		t.Errorf("P19.1: slice: %d statements", len(r.List))
	}
}
