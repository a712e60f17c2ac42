package mach_test

import (
	"math/rand"
	"slices"
	"strconv"
	"strings"
	"testing"

	"rewind/api"
	"rewind/code"
	"rewind/mach"
	"rewind/world"
)

// wantEnding: how code ends that need not be a program's.
func wantEnding(t *testing.T, want string, lines ...string) {
	t.Helper()
	m := started(t, parsed(t, lines...), 50, 7, 8)
	for range 60 {
		if !m.Next() {
			break
		}
	}
	if got := ending(m); got != want {
		t.Errorf("P13.1: %q\n%s\nwant\n%s", lines, got, want)
	}
}

func TestCodeByHand(t *testing.T) {
	wantEnding(t, "true 0, 0 steps, 0 taken: ", "proc main 0 0 4", "return 0")
	wantEnding(t, "true 0, 0 steps, 0 taken: ", "proc main 0 0 1", "const 5", "return 1")
	wantEnding(t, "true 0, 2 steps, 1 taken: 7 true", "proc main 0 1 4", "mark 999", "read", "store 0", "load 0", "print 1", "mark 0", "const 1", "print 2", "return 0")
	// An array that isn't made yet has no places.
	for _, index := range []string{"0", "-1", "1"} {
		wantEnding(t, "true 11, 1 steps, 0 taken: ", "proc main 0 1 4", "mark 0", "const "+index, "loadat 0", "print 1", "return 0")
		wantEnding(t, "true 11, 1 steps, 0 taken: ", "proc main 0 1 4", "mark 0", "const "+index, "const 5", "storeat 0", "return 0")
	}
	wantEnding(t, "true 0, 0 steps, 0 taken: 0 4", "proc main 0 1 4", "new 0 2", "const 1", "loadat 0", "print 1", "const 1", "const 4", "storeat 0", "const 1", "loadat 0", "print 1", "return 0")
}

// A call that hasn't begun a statement, while one that it called has.
func TestFramesWithoutAStatement(t *testing.T) {
	m := started(t, parsed(t, "proc main 0 1 4", "const 7", "store 0", "call 1", "return 0", "proc f 0 0 4", "mark 5", "return 0"), 50)
	if !m.Next() || frames(m) != "{0 0 -1 -1 [{7 []}]} {1 1 5 0 []}" || touches(m) != "-1w{0 0 -1}" {
		t.Errorf("P13.1: ahead of main's first statement: %s, %s", frames(m), touches(m))
	}
}

// Code that no program is, and that goes around without a statement, ends, too.
func TestCodeThatGoesAround(t *testing.T) {
	double := []string{"proc main 0 0 4", "call 1", "call 1", "return 0"}
	for n := 1; n < 60; n++ {
		next := strconv.Itoa(n + 1)
		double = append(double, "proc f"+strconv.Itoa(n)+" 0 0 4", "call "+next, "call "+next, "return 0")
	}
	double = append(double, "proc g 0 0 4", "return 0")
	for _, lines := range [][]string{
		{"proc main 0 0 4", "jump 0"},
		{"proc main 0 0 4", "mark 0", "jump 1"},
		{"proc main 0 0 4", "const 1", "print 1", "jump 0"},
		{"proc main 0 0 4", "call 0", "jump 0"},
		{"proc main 0 0 4", "call 1", "jump 0", "proc f 0 0 4", "return 0"},
		double,
	} {
		m := started(t, parsed(t, lines...), 5)
		for range 8 {
			m.Next()
		}
		if over, e := m.Ended(); !over || e != api.ErrSpent && e != api.ErrStack || m.Next() || len(m.Frames()) != 0 {
			t.Errorf("P6: %q: %.300s", lines, ending(m))
		}
	}
}

// Between two statements a program does no more than fits: many calls of functions without statements, in many calls in one another.
func TestMuchBetweenTwoStatements(t *testing.T) {
	sum := "none(1)" + strings.Repeat(" + none(1)", 900)
	wantEnd(t, "func main() { print f(62); }\nfunc f(n) int { if n == 0 { return 1; } return f(n - 1) + "+sum+"; }\nfunc none(x) int { }", world.World{Steps: 999}, api.OK, 1+63*2, 0, "1")
	wantEnd(t, "func main() { print "+sum+"; print 2; }\nfunc none(x) int { }", world.World{Steps: 9}, api.OK, 2, 0, "0", "2")
	wantEnd(t, "func main() { f(62); print 5; }\nfunc f(n) { if n > 0 { f(n - 1); } }", world.World{Steps: 999}, api.OK, 2+63+62, 0, "5")
}

// Good code that a program's was made to by chance: whatever it does, it ends, and keeps to its steps and inputs.
func TestOtherGoodCode(t *testing.T) {
	r := rand.New(rand.NewSource(77))
	good, begun := 0, 0
	for good < 3000 {
		c := built(t, stock[r.Intn(len(stock))])
		c.List = slices.Clone(c.List)
		for range 1 + r.Intn(3) {
			x := &c.List[r.Intn(len(c.List))]
			other := c.List[r.Intn(len(c.List))]
			*x = []code.Instr{other, {Op: x.Op, Arg: other.Arg, More: x.More}, {Op: other.Op, Arg: x.Arg, More: x.More}, {Op: 1 + r.Intn(29), Arg: r.Intn(3)}}[r.Intn(4)]
		}
		if !code.Good(c) {
			continue
		}
		good++
		m := started(t, c, 80, 1, 2, 3)
		for m.Next() {
			m.Frames()
			m.Touches()
			m.Copy()
		}
		if over, _ := m.Ended(); !over || m.Steps() > 80 || m.Taken() > 3 {
			t.Fatalf("P6: %q\n%s", code.Print(c), ending(m))
		}
		begun += m.Steps()
	}
	if begun < 30000 {
		t.Errorf("only %d statements began", begun)
	}
}

// A machine's code can be reached, and be changed, and a machine be none that New made: no call panics.
func TestMachinesThatAreNone(t *testing.T) {
	for n := range 12 {
		m := started(t, built(t, ordinary[4]), 500)
		for range n {
			m.Next()
		}
		m.List, m.Procs = m.List[:n], m.Procs[:n%2]
		other := m.Copy()
		for range 600 {
			m.Next()
		}
		if over, e := m.Ended(); !over || e == api.OK || m.Next() || other.Steps() != n {
			t.Errorf("P6: a machine whose code was changed: %s", ending(m))
		}
	}
	var none mach.Machine
	none.Frames()
	none.Touches()
	none.Copy()
	if none.Next() || none.Steps() != 0 || none.Out() != "" || none.Taken() != 0 {
		t.Errorf("P6: a machine of no code: %s", ending(&none))
	}
}
