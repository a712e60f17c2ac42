package desk_test

import (
	"fmt"
	"slices"
	"strconv"
	"strings"
	"testing"

	"rewind/api"
	"rewind/desk"
	"rewind/world"
)

// turns has 19 records: wheres tells of each which statements its calls are at.
const turns = `func main() {
  var a[2];
  var i = 0;
  while i < 2 {
    a[i] = read; i = i + 1;
  }
  print a[1];
  if a[1] > a[0] { var x = less(4);
    print less(x); }
  if i == 9 { var i = 5; print i; }
}
func less(n) int {
  if n > 3 { n = n - 2;
    return n;
  }
  return n - 1;
}
`

// wheres: the lines on which they begin are 2, 3, 4, 5, 5, 4, 5, 5, 4, 7, 8, 8, 13, 13, 14, 9, 13, 16, 10.
var wheres = [][]int{{0}, {1}, {4}, {2}, {3}, {4}, {2}, {3}, {4}, {5}, {8}, {6}, {6, 14}, {6, 12}, {6, 13}, {7}, {7, 14}, {7, 15}, {11}}

var given = world.World{Steps: 100, Inputs: []int{4, 7}}

func opened(t *testing.T, text string, w world.World, pace, room int) *desk.Desk {
	t.Helper()
	d, at, e := desk.New(text, w, pace, room)
	if e != api.OK || at != 0 || d == nil {
		t.Fatalf("P19.1: New of %.2000q: %d, %d, want a desk", text, at, e)
	}
	return d
}

func ofTurns(t *testing.T) *desk.Desk {
	t.Helper()
	return opened(t, turns, given, 3, 2)
}

// told: a reply in one line: its error, if there is one, where the desk is, and what else it has.
func told(r desk.Reply) string {
	out := strconv.Itoa(r.At)
	if r.Code != api.OK {
		out += " error " + strconv.Itoa(int(r.Code))
	}
	if r.Clamped {
		out += " clamped"
	}
	if r.Value != 0 {
		out += " value " + strconv.Itoa(r.Value)
	}
	if len(r.List) > 0 {
		out += " " + fmt.Sprint(r.List)
	}
	return out
}

// wantTold: what a desk says to lines, one behind the other, each of which stands here with what is told.
func wantTold(t *testing.T, d *desk.Desk, script ...string) {
	t.Helper()
	for n, x := range script {
		line, want, _ := strings.Cut(x, ": ")
		if got := told(d.Do(line)); got != want {
			t.Errorf("P19.1: %d, %s: %s, want %s", n, line, got, want)
		}
	}
}

func goTo(t *testing.T, d *desk.Desk, at int) {
	t.Helper()
	if r := d.Do("go " + strconv.Itoa(at)); told(r) != strconv.Itoa(at) {
		t.Fatalf("P19.1: go %d: %s", at, told(r))
	}
}

func TestANewDesk(t *testing.T) {
	d := ofTurns(t)
	if n := d.Len(); n != len(wheres) {
		t.Errorf("P19.1: Len: %d, want %d", n, len(wheres))
	}
	wantTold(t, d, "where: 0 [0]", "list: 0", "run: 19 clamped", "where: 19", "rerun: 0 clamped", "clear 2: 0 error 17", "go 2: 2", "drop i: 2 error 17")
}

func TestWhere(t *testing.T) {
	d := ofTurns(t)
	for at, want := range wheres {
		goTo(t, d, at)
		wantTold(t, d, fmt.Sprintf("where: %d %d", at, want))
	}
	goTo(t, d, 19)
	wantTold(t, d, "where: 19")
	deep := opened(t, "func main() { f(1); }\nfunc f(n) { if n > 0 { f(n + 1); } }", world.World{Steps: 999}, 7, 3)
	wantTold(t, deep, "go 200: 127 clamped", "back: 126")
	want := append(append([]int{0}, slices.Repeat([]int{1}, 62)...), 1)
	if r := deep.Do("where"); !slices.Equal(r.List, want) {
		t.Errorf("P19.1: where in the deepest call: %d, want %d", r.List, want)
	}
}

func TestStepAndBack(t *testing.T) {
	d := ofTurns(t)
	for at := 1; at <= 19; at++ {
		wantTold(t, d, fmt.Sprintf("step: %d", at))
	}
	wantTold(t, d, "step: 19 clamped", "step: 19 clamped")
	for at := 18; at >= 0; at-- {
		wantTold(t, d, fmt.Sprintf("back: %d", at))
	}
	wantTold(t, d, "back: 0 clamped", "back: 0 clamped", "step: 1")
}

func TestGo(t *testing.T) {
	d := ofTurns(t)
	for from := range 20 {
		for to := range 20 {
			goTo(t, d, from)
			goTo(t, d, to)
		}
		goTo(t, d, from)
		wantTold(t, d, fmt.Sprintf("go %d: %d", from, from), "go 20: 19 clamped", "go 999999: 19 clamped", "go 0: 0", "go 21: 19 clamped")
	}
}

// Of each record, and of the end: where next, prev, finish and start lead; -1 and 20 where there is none.
func TestByCalls(t *testing.T) {
	d := ofTurns(t)
	for at, x := range [][4]int{
		{1, -1, 20, -1}, {2, 0, 20, -1}, {3, 1, 20, -1}, {4, 2, 20, -1}, {5, 3, 20, -1}, {6, 4, 20, -1}, {7, 5, 20, -1}, {8, 6, 20, -1}, {9, 7, 20, -1}, {10, 8, 20, -1}, {11, 9, 20, -1},
		{15, 10, 20, -1}, {13, 11, 15, 11}, {14, 12, 15, 11}, {15, 13, 15, 11},
		{18, 11, 20, -1}, {17, 15, 18, 15}, {18, 16, 18, 15}, {20, 15, 20, -1}, {20, -1, 20, -1},
	} {
		for n, word := range []string{"next", "prev", "finish", "start"} {
			goTo(t, d, at)
			want := word + ": " + strconv.Itoa(min(max(x[n], 0), 19))
			if x[n] < 0 || x[n] > 19 {
				want += " clamped"
			}
			wantTold(t, d, want)
		}
	}
}

// Calls by the same function in one another are counted, not functions, nor calls by their numbers.
func TestByCallsThatCallThemselves(t *testing.T) {
	text := "func main() { f(2); f(0); }\nfunc f(n) { if n > 0 { f(n - 1); f(n - 1); } print n; }"
	d := opened(t, text, world.World{Steps: 99}, 2, 1)
	// So many calls are in one another: 1, 2 2, 3 3, 4 4 (n is 0), 3, 4 4, 3, 2, 3 3, 4 4, 3, 4 4, 3, 2, 1, 2 2.
	wantTold(t, d, "step: 1", "next: 2", "next: 11", "prev: 2", "step: 3", "finish: 11", "start: 0", "go 6: 6", "next: 7", "next: 10", "next: 11", "next: 20", "next: 21", "prev: 0",
		"go 20: 20", "prev: 11", "prev: 2", "prev: 1", "prev: 0", "go 15: 15", "finish: 16", "finish: 20", "finish: 21", "finish: 24 clamped", "go 18: 18", "start: 16", "start: 11", "start: 0", "start: 0 clamped", "go 24: 24", "prev: 0 clamped")
}

func TestQuit(t *testing.T) {
	d := ofTurns(t)
	wantTold(t, d, "break 4: 0 [4]", "go 5: 5", "quit now: 5 error 3", "quit: 5")
	for _, line := range []string{"quit", "step", "where", "list", "print i", "", "jump", "go x", strings.Repeat("x", 300)} {
		if r := d.Do(line); r.Code != api.ErrClosed || told(r) != "0 error 18" {
			t.Errorf("P19.1: %.20s behind quit: %s", line, told(r))
		}
	}
	if n := d.Len(); n != 19 {
		t.Errorf("P19.1: Len behind quit: %d", n)
	}
	other := ofTurns(t)
	wantTold(t, other, "go 19: 19", "quit: 19", "back: 0 error 18")
}

func TestWhatIsNoOrder(t *testing.T) {
	d := ofTurns(t)
	for _, at := range []int{0, 7, 19} {
		goTo(t, d, at)
		here := strconv.Itoa(at)
		wantTold(t, d, ": "+here+" error 16", "  : "+here+" error 16", "jump: "+here+" error 16", "Step: "+here+" error 16", "step 1: "+here+" error 3", "go: "+here+" error 3", "go -1: "+here+" error 3", "go 1000000: "+here+" error 3", "go 01: "+here+" error 3",
			"break: "+here+" error 3", "break i: "+here+" error 3", "print: "+here+" error 3", "print 1: "+here+" error 3", "print a[i]: "+here+" error 3", "watch a[-1]: "+here+" error 3", "list 1: "+here+" error 3",
			"step"+strings.Repeat(" ", 197)+": "+here+" error 1", "list"+strings.Repeat(" ", 196)+": "+here)
	}
	wantTold(t, d, "  go \t 3  : 3", "\tprint\ta[0]: 3", "back\n: 3 error 16")
}

// A desk that was told run, and then back, is a record ahead of the end.
func TestRunAndBack(t *testing.T) {
	wantTold(t, ofTurns(t), "run: 19 clamped", "back: 18")
}

// A program that has no record is at its end all the time.
func TestProgramsWithoutRecords(t *testing.T) {
	for _, x := range []struct {
		text  string
		steps int
	}{{"func main() { }", 9}, {"func main() { }\nfunc f(n) { print n; }", 0}, {"func main() { var x = 1; print x; }", 0}} {
		for _, pace := range []int{1, 5} {
			d := opened(t, x.text, world.World{Steps: x.steps}, pace, pace)
			if d.Len() != 0 {
				t.Errorf("P19.1: Len: %d, want 0", d.Len())
			}
			for _, word := range []string{"step", "back", "next", "prev", "finish", "start", "run", "rerun", "go 1", "go 999999"} {
				wantTold(t, d, word+": 0 clamped")
			}
			wantTold(t, d, "go 0: 0", "where: 0", "list: 0", "break 1: 0 [1]", "run: 0 clamped", "rerun: 0 clamped")
			for _, line := range []string{"print x", "why x", "watch x", "drop x", "print x[0]", "reached", "slice"} {
				wantTold(t, d, line+": 0 error 17")
			}
			wantTold(t, d, "quit: 0", "quit: 0 error 18")
		}
	}
}
