package mach_test

import (
	"strconv"
	"strings"
	"testing"

	"rewind/api"
	"rewind/mach"
	"rewind/world"
)

// moments: what a machine tells behind each Next, up to the one that comes to the end.
func moments(m *mach.Machine) []string {
	for out := []string{}; ; {
		next := m.Next()
		out = append(out, momentOf(m, next))
		if !next {
			return out
		}
	}
}

// wantMoments: a machine goes on as it must, up to its end.
func wantMoments(t *testing.T, text string, m *mach.Machine, want []string) {
	t.Helper()
	got := moments(m)
	if len(got) != len(want) {
		t.Fatalf("P13.1: a copy comes to its end behind %d Nexts, want %d, of\n%s", len(got), len(want), text)
	}
	for n, x := range want {
		if got[n] != x {
			t.Fatalf("P13.1: a copy of a machine of\n%s\ntells\n%s\nwant\n%s", text, got[n], x)
		}
	}
}

// A copy is where its machine is, and each goes on by itself, whichever of both goes on first.
func TestCopiesAtEachRecord(t *testing.T) {
	in := world.World{Steps: 200, Inputs: []int{3, 5, 1, 4, 2}}
	for _, text := range append(append([]string{}, ordinary...), stock...) {
		c := built(t, text)
		want := moments(started(t, c, in.Steps, in.Inputs...))
		m := started(t, c, in.Steps, in.Inputs...)
		var copies []*mach.Machine
		for n, x := range want {
			other := m.Copy()
			if got := momentOf(other, true); got != momentOf(m, true) {
				t.Fatalf("P13.1: a copy behind %d Nexts of\n%s\ntells\n%s\nwant\n%s", n, text, got, momentOf(m, true))
			}
			copies = append(copies, other, other.Copy(), m.Copy())
			wantMoments(t, text, other, want[n:])
			if got := momentOf(m, m.Next()); got != x {
				t.Fatalf("P13.1: behind %d Nexts, and what its copies did, a machine of\n%s\ntells\n%s\nwant\n%s", n+1, text, got, x)
			}
		}
		for n := len(want) - 1; n >= 0; n -= 7 {
			wantMoments(t, text, copies[3*n+1], want[n:])
			wantMoments(t, text, copies[3*n+2], want[n:])
		}
	}
}

// An array, a name, a calling expression's values, the output and the inputs of one aren't the other's.
func TestCopiesGoOnByThemselves(t *testing.T) {
	text := "func main() { var a[2]; var x = 0; while true { a[1] = x; x = x + 1; print 100 * x + (10 + f(x)) - read; } }\nfunc f(n) int { var b[1]; b[0] = n; n = n + 1; return n + b[0]; }"
	var inputs []int
	for n := range 50 {
		inputs = append(inputs, n*n)
	}
	c := built(t, text)
	want := moments(started(t, c, 300, inputs...))
	first := started(t, c, 300, inputs...)
	for n := range 40 {
		first.Next()
		row := []*mach.Machine{first.Copy(), first.Copy(), first.Copy()}
		for at := n + 1; at < n+30; at++ {
			for _, m := range row {
				if got := momentOf(m, m.Next()); got != want[at] {
					t.Fatalf("P13.1: of copies behind %d Nexts that go on by turns one tells, behind %d\n%s\nwant\n%s", n+1, at+1, got, want[at])
				}
			}
		}
		if got := momentOf(first, true); got != want[n] {
			t.Fatalf("P13.1: what copies did changed their machine: %s, want %s", got, want[n])
		}
	}
}

// Of the longest run that prints there are copies at all records, which are many texts if each has a text of its own.
func TestCopiesOfALongOutput(t *testing.T) {
	m := started(t, built(t, "func main() { var x = 0; while true { print x; x = x + 1; } }"), api.MaxSteps)
	var copies []*mach.Machine
	for m.Next() {
		copies = append(copies, m.Copy())
	}
	var want strings.Builder
	for n := range len(copies) / 3 {
		want.WriteString(strconv.Itoa(n) + "\n")
	}
	whole := want.String()
	if len(copies) != api.MaxSteps || m.Out() != whole {
		t.Fatalf("P13.1: %d copies, %d bytes of output, want %d, %d", len(copies), len(m.Out()), api.MaxSteps, len(whole))
	}
	size, lines := 0, 0
	for n, x := range copies {
		if n > 2 && n%3 == 0 { // of the statements behind the first one the third one comes behind a print
			size += len(strconv.Itoa(lines)) + 1
			lines++
		}
		if x.Out() != whole[:size] {
			t.Fatalf("P13.1: at the record %d there are %d bytes of output, want %d", n, len(x.Out()), size)
		}
	}
	for n := 0; n < len(copies); n += 9999 {
		x := copies[n].Copy()
		for x.Next() {
		}
		if x.Out() != whole || x.Steps() != api.MaxSteps {
			t.Errorf("P13.1: a copy at the record %d goes on to %d bytes of output, want %d", n, len(x.Out()), len(whole))
		}
	}
}

// Of a long run in many calls with many arrays there are copies at all records, which are much memory if each has arrays of its own.
func TestCopiesOfManyArrays(t *testing.T) {
	arrays := ""
	for n := range 60 {
		arrays += "var a" + strconv.Itoa(n) + "[64]; "
	}
	m := started(t, built(t, "func main() { f(60); }\nfunc f(n) { "+arrays+" if n > 0 { f(n - 1); } while true { a0[n] = a0[n] + 1; a59[63] = a0[n]; } }"), 30000)
	var copies []*mach.Machine
	for m.Next() {
		copies = append(copies, m.Copy())
	}
	last, before := copies[len(copies)-1].Frames(), copies[len(copies)-7].Frames()
	if len(copies) != 30000 || len(last) != 62 {
		t.Fatalf("P13.1: %d copies, at last of %d calls", len(copies), len(last))
	}
	a, b := last[61].Names[1].List[0], before[61].Names[1].List[0]
	if a != b+2 || a < 8000 {
		t.Errorf("P13.1: an array's place is %d, and was %d", a, b)
	}
	other := copies[10000]
	for range 1000 {
		other.Next()
	}
	if got, want := momentOf(other, true), momentOf(copies[11000], true); got != want {
		t.Errorf("P13.1: a copy at 10000 goes on to\n%.500s\nwant\n%.500s", got, want)
	}
}
