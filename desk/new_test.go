package desk_test

import (
	"math"
	"slices"
	"strings"
	"testing"

	"rewind/api"
	"rewind/desk"
	"rewind/world"
)

// tooHigh: a right program with an expression that code can't be made of.
func tooHigh() string {
	sum := strings.Repeat("f(1,1,1,1,1,1,1,1,1,1,1,1,1,", 20) + "1" + strings.Repeat(")", 20)
	return "func main() { print " + sum + "; }\nfunc f(a,b,c,d,e,g,h,i,j,k,l,m,n,o) int { return 1; }"
}

// What is wrong is told in the order in which a program is made: of a text, right, as code, in a world.
func TestNewOfWhatIsWrong(t *testing.T) {
	good, none := world.World{Steps: 9}, world.World{Steps: -1}
	high := tooHigh()
	for _, x := range []struct {
		text string
		w    world.World
		at   int
		e    api.Errno
	}{
		{"", good, 0, api.ErrParse},
		{"func main() {", good, 13, api.ErrParse},
		{"func main() { @ }", good, 14, api.ErrToken},
		{strings.Repeat(" ", api.MaxText+1), good, 0, api.ErrLong},
		{"func main() { print " + strings.Repeat("-", 65) + "1; }", good, 84, api.ErrDeep},
		{"func main() { " + strings.Repeat("f();", 1001) + " }\nfunc f() { }", good, 14 + 4*1001 + 1, api.ErrMany},
		{"func main() {", none, 13, api.ErrParse},
		{"func main() { x = 1; ", good, 21, api.ErrParse},
		{"func main() { x = 1; }", good, 14, api.ErrName},
		{"func main() { x = 1; }", none, 14, api.ErrName},
		{"func main() { var x = 1; var x = 2; }", good, 25, api.ErrTwice},
		{"func main() { break; }", good, 14, api.ErrJump},
		{"func f() { }", good, 0, api.ErrNone},
		{"func main() { print 1; }\nfunc main() { }", good, 25, api.ErrTwice},
		{high + "func x() { y(); }", good, len(high) + 11, api.ErrName},
		{high, good, 0, api.ErrDeep},
		{high, none, 0, api.ErrDeep},
		{turns, none, 0, api.ErrRange},
		{turns, world.World{Steps: api.MaxSteps + 1}, 0, api.ErrRange},
		{turns, world.World{Steps: math.MinInt}, 0, api.ErrRange},
		{turns, world.World{Steps: 9, Inputs: slices.Repeat([]int{1}, 1001)}, 0, api.ErrRange},
	} {
		for _, pace := range []int{1, 0, -1, 1000, math.MaxInt} {
			if d, at, e := desk.New(x.text, x.w, pace, -pace); d != nil || at != x.at || e != x.e {
				t.Errorf("P19.1: New of %.300q, in %d steps, %d inputs: %d, %d, want no desk, %d, %d", x.text, x.w.Steps, len(x.w.Inputs), at, e, x.at, x.e)
			}
		}
	}
}

// Any numbers may be told as pace and room.
func TestAnyPaceAndRoom(t *testing.T) {
	for _, pace := range []int{math.MinInt, -1, 0, 1, 2, 7, 999, 1000, 1001, math.MaxInt} {
		for _, room := range []int{math.MinInt, -1, 0, 1, 2, 1000, 1001, math.MaxInt} {
			d := opened(t, turns, given, pace, room)
			wantTold(t, d, "go 15: 15", "print x: 15 value 2", "why x: 15 [11]", "reached: 15 [10]", "watch x: 15 [1]", "slice: 15 [0 1 2 3 4 6 7 8 12 13 14 15]", "rerun: 0 clamped", "run: 15", "run: 19 clamped", "rerun: 15", "where: 15 [7]")
		}
	}
}

// Whatever way a program ends, its end is the desk's.
func TestEachEnd(t *testing.T) {
	for _, x := range []struct {
		text  string
		count int
	}{
		{"func main() { var x = 2; print x; return; }", 3},
		{"func main() { var x = 3; while true { x = x - 1; print 6 / x; } }", 10},
		{"func main() { var a[3]; var x = 0; while true { a[x] = x; x = x + 1; } }", 13},
		{"func main() { while true { print read; } }", 4},
		{"func main() { f(1); }\nfunc f(n) { f(n + 1); }", 64},
		{"func main() { var x = 0; while true { x = x + 1; } }", 200},
	} {
		d := opened(t, x.text, world.World{Steps: 200, Inputs: []int{1}}, 5, 2)
		if d.Len() != x.count {
			t.Errorf("P19.1: Len: %d, want %d, of\n%s", d.Len(), x.count, x.text)
		}
		if r := d.Do("go 999"); r.At != x.count || !r.Clamped {
			t.Errorf("P19.1: go 999: %s, want %d, of\n%s", told(r), x.count, x.text)
		}
	}
}
