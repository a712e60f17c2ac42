package desk_test

import (
	"fmt"
	"math"
	"testing"

	"rewind/world"
)

// The value is the one that is there as the record begins.
func TestPrint(t *testing.T) {
	d := ofTurns(t)
	wantTold(t, d, "go 1: 1", "print a[0]: 1", "print a[1]: 1", "print i: 1 error 6", "go 2: 2", "print i: 2", "go 4: 4", "print a[0]: 4 value 4", "print a[1]: 4", "print i: 4", "step: 5", "print i: 5 value 1", "go 7: 7", "print a[1]: 7 value 7", "print i: 7 value 1", "step: 8", "print i: 8 value 2", "go 12: 12", "print n: 12 value 4", "go 13: 13", "print n: 13 value 4", "step: 14", "print n: 14 value 2", "step: 15", "print x: 15 value 2", "go 16: 16", "print n: 16 value 2", "back: 15", "print n: 15 error 6", "step: 16", "print x: 16 error 6", "print i: 16 error 6", "go 18: 18", "print i: 18 value 2", "print x: 18 error 6")
}

// A bool is 0 or 1; an int may be any.
func TestPrintOfEachType(t *testing.T) {
	text := "func main() { var b = 1 < 2; var c = !b; var x = read; var y = read; var a[3]; a[1] = -y; a[2] = x; b = x == y; print b; }"
	d := opened(t, text, world.World{Steps: 50, Inputs: []int{math.MinInt, math.MaxInt}}, 3, 3)
	wantTold(t, d, "go 7: 7", "print b: 7 value 1", "print c: 7", fmt.Sprintf("print x: 7 value %d", math.MinInt), fmt.Sprintf("print y: 7 value %d", math.MaxInt), "print a[0]: 7", fmt.Sprintf("print a[1]: 7 value %d", -math.MaxInt), fmt.Sprintf("print a[2]: 7 value %d", math.MinInt), "step: 8", "print b: 8")
}

func TestWhy(t *testing.T) {
	d := ofTurns(t)
	// The array's places are written where it begins, and an array is made at once; a parameter is written where the call is.
	wantTold(t, d, "go 1: 1", "why a[0]: 1 [0]", "why a[1]: 1 [0]", "go 2: 2", "why i: 2 [1]", "go 3: 3", "why a[0]: 3 [0]", "step: 4", "why a[0]: 4 [3]", "why a[1]: 4 [0]", "why i: 4 [1]", "step: 5", "why i: 5 [4]", "go 9: 9", "why a[0]: 9 [3]", "why a[1]: 9 [6]", "why i: 9 [7]", "go 12: 12", "why n: 12 [11]", "go 13: 13", "why n: 13 [11]", "step: 14", "why n: 14 [13]", "go 15: 15", "why x: 15 [11]", "go 16: 16", "why n: 16 [15]", "go 18: 18", "why i: 18 [7]")
}

// What is written as what it was is written, too; each turn's array is a new one; what another call of the function writes is another one's.
func TestWhyOfWhatIsWrittenAgain(t *testing.T) {
	text := "func main() { var x = 1; while x < 3 { var a[2]; a[1] = x; x = x; x = f(x); } }\nfunc f(n) int { if n == 1 { n = f(9); n = 1; } return n + 1; }"
	d := opened(t, text, world.World{Steps: 50}, 4, 2)
	// 0 var, 1 while, 2 var a, 3 a[1], 4 x = x, 5 x = f; the call 1: 6 if, 7 n = f; the call 2: 8 if, 9 return; 10 n = 1, 11 return; 12 while, 13 var a, 14 a[1].
	wantTold(t, d, "go 4: 4", "why a[0]: 4 [2]", "why a[1]: 4 [3]", "why x: 4 [0]", "go 5: 5", "why x: 5 [4]", "go 6: 6", "why n: 6 [5]", "go 8: 8", "why n: 8 [7]", "print n: 8 value 9", "go 10: 10", "why n: 10 [7]", "print n: 10 value 10", "go 11: 11", "why n: 11 [10]", "go 12: 12", "why x: 12 [5]", "go 14: 14", "why a[1]: 14 [13]", "print a[1]: 14")
}

func TestPlacesThatAreNone(t *testing.T) {
	d := ofTurns(t)
	for _, word := range []string{"print", "why", "watch", "drop"} {
		for _, x := range []struct {
			at    int
			place string
			e     int
		}{
			{9, "y", 6}, {9, "y[0]", 6}, {9, "less", 6}, {9, "main", 6}, {9, "n", 6}, {9, "x", 6}, {9, "x[0]", 6}, {9, "I", 6}, {9, "A[0]", 6},
			{9, "a", 8}, {9, "i[0]", 8}, {9, "i[999999]", 8},
			{9, "a[2]", 11}, {9, "a[3]", 11}, {9, "a[64]", 11}, {9, "a[999999]", 11},
			{0, "a", 6}, {0, "a[0]", 6}, {0, "a[2]", 6}, {0, "i", 6}, {1, "a", 8}, {1, "a[2]", 11}, {1, "i", 6}, {1, "i[0]", 6},
			{12, "a[0]", 6}, {12, "i", 6}, {12, "n[0]", 8}, {16, "x", 6}, {18, "x", 6},
			{19, "i", 17}, {19, "y", 17}, {19, "a", 17}, {19, "a[0]", 17}, {19, "a[2]", 17}, {19, "n", 17},
		} {
			goTo(t, d, x.at)
			wantTold(t, d, fmt.Sprintf("%s %s: %d error %d", word, x.place, x.at, x.e))
		}
	}
	wantTold(t, d, "go 9: 9", "watch i: 9 [1]")
}

func TestReachedAndSlice(t *testing.T) {
	d := ofTurns(t)
	for at, by := range []int{-1, -1, -1, 2, 2, 2, 5, 5, 5, -1, -1, 10, 11, 12, 12, 10, 15, 16, -1} {
		goTo(t, d, at)
		wantTold(t, d, fmt.Sprintf("reached: %d [%d]", at, by))
	}
	for _, want := range []string{"0: 0 [0]", "1: 1 [1]", "2: 2 [1 4]", "4: 4 [1 3 4]", "5: 5 [1 3 4]", "9: 9 [0 1 2 3 4 5]", "11: 11 [0 1 2 3 4 6 8 13 14]", "18: 18 [1 3 4 11]"} {
		var at int
		fmt.Sscan(want, &at)
		goTo(t, d, at)
		wantTold(t, d, "slice"+want[len(fmt.Sprint(at)):])
	}
	wantTold(t, d, "go 19: 19", "reached: 19 error 17", "slice: 19 error 17")
}

// An order that is answered with an error has changed nothing.
func TestErrorsChangeNothing(t *testing.T) {
	d := ofTurns(t)
	wantTold(t, d, "break 5: 0 [5]", "go 8: 8", "watch a[1]: 8 [1]")
	for _, line := range []string{"", "jump", "go x", "break 5", "clear 6", "watch a[1]", "drop a[0]", "watch a[2]", "drop a", "watch z", "print a", "why i[1]", "print z", "quit 1", "step back"} {
		if r := d.Do(line); r.Code == 0 || r.At != 8 || r.Clamped || r.Value != 0 || len(r.List) > 0 {
			t.Errorf("P7: %q: %s, want an error at 8, and nothing else", line, told(r))
		}
	}
	wantTold(t, d, "list: 8 [5]", "where: 8 [4]", "rerun: 7", "rerun: 6", "rerun: 4", "rerun: 3", "rerun: 1", "rerun: 0 clamped", "drop a[1]: 0 error 6", "step: 1", "drop a[1]: 1 [0]")
}
