package check_test

import (
	"reflect"
	"strings"
	"testing"

	"rewind/api"
	"rewind/check"
	"rewind/syntax"
)

func parsed(t *testing.T, text string) api.Tree {
	t.Helper()
	p, at, e := syntax.Parse(text)
	if e != api.OK {
		t.Fatalf("Parse(%.2000q): %d, %d, want a program", text, at, e)
	}
	return p
}

// full: what is known, whose empty lists are nil, which means the same.
func full(x check.Info) check.Info {
	out := check.Info{Type: copied(x.Type), Slot: copied(x.Slot), Put: copied(x.Put), Func: copied(x.Func)}
	for _, l := range x.Slots {
		out.Slots = append(out.Slots, copied(l))
	}
	return out
}

func copied(l []int) []int { return append([]int(nil), l...) }

func wantRight(t *testing.T, text string) check.Info {
	t.Helper()
	info, at, e := check.Check(parsed(t, text))
	if e != api.OK || at != 0 {
		t.Errorf("P6.1: Check of %.2000q: %d, %d, want 0, 0", text, at, e)
	}
	return info
}

func wantInfo(t *testing.T, text string, want check.Info) {
	t.Helper()
	if got := full(wantRight(t, text)); !reflect.DeepEqual(got, full(want)) {
		t.Errorf("P6.1: Check of %q:\n%+v, want\n%+v", text, got, want)
	}
}

// wantFault: an error, at the place of the @, which isn't there.
func wantFault(t *testing.T, text string, want api.Errno) {
	t.Helper()
	place := strings.Index(text, "@")
	text = strings.Replace(text, "@", "", 1)
	info, at, e := check.Check(parsed(t, text))
	if e != want || at != place {
		t.Errorf("P6.1: Check of %.2000q: %d, %d, want %d, %d", text, at, e, place, want)
	}
	if e != api.OK && !reflect.DeepEqual(info, check.Info{}) {
		t.Errorf("P7: Check of %.2000q: %+v beside an error", text, info)
	}
}

// helpers: functions behind main, and what main has ahead of all.
const (
	helpers  = " func u() { } func u1(x) { } func f0() int { } func f1(x) int { } func f2(x, y) int { }"
	declared = "var i = 1; var b = true; var a[3]; "
)

func inMain(body string) string { return "func main() { " + declared + body + " }" + helpers }

func wantBody(t *testing.T, body string) {
	t.Helper()
	wantRight(t, inMain(body))
}

func wantBodyFault(t *testing.T, body string, want api.Errno) {
	t.Helper()
	wantFault(t, inMain(body), want)
}

func wantType(t *testing.T, expr string, want int) {
	t.Helper()
	text := inMain("var v = " + expr + ";")
	p := parsed(t, text)
	info := wantRight(t, text)
	if len(info.Slots) == 0 {
		return
	}
	if got := info.Slots[0]; !reflect.DeepEqual(got, []int{api.Int, api.Bool, api.List, want}) {
		t.Errorf("P6.1: Slots with %q: %d, want the last to be %d", expr, got, want)
	}
	if got := info.Type[p.Stmts[3].A]; got != want {
		t.Errorf("P6.1: Type of %q: %d, want %d", expr, got, want)
	}
}

func TestTypesOfExpressions(t *testing.T) {
	for _, s := range []string{"0", "1", "999999999999999999", "read", "i", "a[0]", "a[i]", "a[a[read]]", "f0()", "f1(1)", "f2(i, a[1])", "f1(f2(f0(), f1(1)))", "-1", "--i", "-a[0]", "-f0()", "(1)", "1 + 2 * 3 - 4 / 5 % 6"} {
		wantType(t, s, api.Int)
	}
	for _, s := range []string{"true", "false", "b", "(b)", "!b", "!!true", "!(1 < 2)", "1 < 2", "i == 1 && b || !b", "b == (1 == 2)", "true != false", "(1 < 2) == (2 < 3)"} {
		wantType(t, s, api.Bool)
	}
}

func TestTypesOfUnary(t *testing.T) {
	wantType(t, "-i", api.Int)
	wantType(t, "!b", api.Bool)
	wantBodyFault(t, "print @-b;", api.ErrType)
	wantBodyFault(t, "print @!i;", api.ErrType)
	wantBodyFault(t, "print @!-i;", api.ErrType)
	wantBodyFault(t, "print @-!b;", api.ErrType)
	wantBodyFault(t, "print !@-b;", api.ErrType)
	wantBodyFault(t, "print -@!i;", api.ErrType)
}

// pairTypes has for each sign the type of a pair of two Ints, and that of one of two Bools; 0: there is none.
func pairTypes() map[string][2]int {
	return map[string][2]int{
		"+": {api.Int, 0}, "-": {api.Int, 0}, "*": {api.Int, 0}, "/": {api.Int, 0}, "%": {api.Int, 0},
		"<": {api.Bool, 0}, "<=": {api.Bool, 0}, ">": {api.Bool, 0}, ">=": {api.Bool, 0},
		"==": {api.Bool, api.Bool}, "!=": {api.Bool, api.Bool},
		"&&": {0, api.Bool}, "||": {0, api.Bool},
	}
}

func TestTypesOfPairs(t *testing.T) {
	ints, bools := []string{"i", "7", "a[0]", "f0()", "(1 + 2)"}, []string{"b", "true", "!b", "(1 < 2)"}
	for sign, types := range pairTypes() {
		for n, l := range [][]string{ints, bools} {
			for _, x := range l {
				for _, y := range l {
					if types[n] != 0 {
						wantType(t, x+" "+sign+" "+y, types[n])
					} else {
						wantBodyFault(t, "print @"+x+" "+sign+" "+y+";", api.ErrType)
					}
				}
			}
		}
		for _, x := range ints {
			for _, y := range bools {
				wantBodyFault(t, "print @"+x+" "+sign+" "+y+";", api.ErrType)
				wantBodyFault(t, "print @"+y+" "+sign+" "+x+";", api.ErrType)
			}
		}
	}
}

func TestExample(t *testing.T) {
	wantFault(t, "func main() { print @x; }", api.ErrName)
	if p := parsed(t, "func main() { print x; }"); p.Exprs[0].Span.From != 20 {
		t.Error("the example's place isn't 20")
	}
}

func TestWhatIsKnown(t *testing.T) {
	wantInfo(t, "func main() { }", check.Info{Slots: [][]int{nil}})
	wantInfo(t, "func main() { } func f(x, y) { } func g() int { }", check.Info{Slots: [][]int{nil, {1, 1}, nil}})
	wantInfo(t, "func main() { print 1; print true; }", check.Info{
		Type: []int{1, 2}, Slot: []int{-1, -1}, Put: []int{-1, -1}, Func: []int{0, 0}, Slots: [][]int{nil},
	})
	wantInfo(t, "func main() { f(g(1, 2)); g(3, 4); } func f(n) { print n == read; } func g(x, y) int { var a[2]; a[x] = -y; return a[y]; }", check.Info{
		Type: []int{
			1, 1, 1, 4, // 1, 2, g(1, 2), f(..)
			1, 1, 1, // 3, 4, g(3, 4)
			1, 1, 2, // n, read, n == read
			1, 1, 1, // x, y, -y
			1, 1, // y, a[y]
		},
		Slot: []int{-1, -1, 2, 1, -1, -1, 2, 0, -1, -1, 0, 1, -1, 1, 2},
		Put:  []int{-1, -1, -1, 2, 2, -1},
		Func: []int{0, 0, 1, 2, 2, 2},
		Slots: [][]int{
			nil, {1}, {1, 1, 3},
		},
	})
}

func TestSlotsInTheOrderInWhichTheyStand(t *testing.T) {
	wantInfo(t, "func main() { } func f(x, y) { if x < y { var v = true; while v { var w[2]; } } else if y < x { var v = 1; } else { var v[3]; } var z = y; while true { var x = true; print x; } print x; x = z; }", check.Info{
		Type: []int{
			1, 1, 2, // x < y
			2, 2, // true, v
			1, 1, 2, // y < x
			1,       // 1
			1,       // y
			2, 2, 2, // true, true, x
			1, 1, // x, z
		},
		Slot: []int{
			0, 1, -1,
			-1, 2,
			1, 0, -1,
			-1,
			1,
			-1, -1, 7,
			0, 6,
		},
		// var v = true, var w, the while, var v = 1, var v, the inner if, the outer if, var z, var x, print x, the while, print x, x = z
		Put:   []int{2, 3, -1, 4, 5, -1, -1, 6, 7, -1, -1, -1, 0},
		Func:  []int{1, 1, 1, 1, 1, 1, 1, 1, 1, 1, 1, 1, 1},
		Slots: [][]int{nil, {1, 1, 2, 3, 1, 3, 1, 2}},
	})
}

// README.md's example.
func TestReadme(t *testing.T) {
	wantInfo(t, "func main() { var x = 1; print x < 2; }", check.Info{
		Type: []int{1, 1, 1, 2}, Slot: []int{-1, 0, -1, -1}, Put: []int{0, -1}, Func: []int{0, 0}, Slots: [][]int{{1}},
	})
}
