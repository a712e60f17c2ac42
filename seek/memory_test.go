package seek_test

import (
	"slices"
	"strings"
	"testing"

	"rewind/api"
	"rewind/code"
	"rewind/mach"
	"rewind/seek"
	"rewind/world"
)

// withSpareRoom: a list with things behind it.
func withSpareRoom[T any](l []T, spare T) []T {
	return append(slices.Clone(l), spare, spare)[:len(l)]
}

func allOf[T any](l []T) []T { return slices.Clone(l[:cap(l)]) }

// scribble changes a list, spare room too.
func scribble[T any](x T, l []T) {
	for i := range l[:cap(l)] {
		l[:cap(l)][i] = x
	}
}

// spoil changes all that a machine answers, and lets it go on to its end.
func spoil(m *mach.Machine) {
	for next := true; next; next = m.Next() {
		for _, f := range m.Frames() {
			for _, v := range f.Names {
				scribble(-77, v.List)
			}
			scribble(mach.Value{N: -77}, f.Names)
		}
		scribble(mach.Frame{Call: -77}, m.Frames())
		scribble(mach.Touch{Record: -77}, m.Touches())
	}
}

func TestWhatIsHandedInStays(t *testing.T) {
	for _, text := range pool {
		c := built(t, text)
		c.Procs, c.List = withSpareRoom(c.Procs, code.Proc{Name: "spare"}), withSpareRoom(c.List, code.Instr{Op: 99})
		inputs := withSpareRoom([]int{3, 5, 1, 4, 2}, -7)
		procs, list, row := allOf(c.Procs), allOf(c.List), allOf(inputs)
		w := world.World{Steps: 100, Inputs: inputs}
		want := places(t, c, w)
		first, _ := seek.New(c, w, 3)
		other, _ := seek.New(c, w, 4)
		other.End()
		other.To(1)
		if !slices.Equal(procs, allOf(c.Procs)) || !slices.Equal(list, allOf(c.List)) || !slices.Equal(row, allOf(inputs)) {
			t.Errorf("P7: what was handed in, or its spare room, was changed, of\n%s", text)
		}
		scribble(-77, inputs)
		wantEnd(t, first, len(want)-1, want)
		for record := range want {
			wantTo(t, first, record, 2, want)
			wantTo(t, other, record, 3, want)
		}
	}
}

// Here's machine goes on by itself: neither it nor what it answers changes the player, its shots, or another copy.
func TestHereIsACopy(t *testing.T) {
	w := world.World{Steps: 60, Inputs: []int{3, 5, 1, 4, 2}}
	for _, text := range pool {
		c := built(t, text)
		want := places(t, c, w)
		for _, pace := range []int{1, 2, 5, 1000} {
			p, _ := seek.New(c, w, pace)
			for record := range want {
				p.To(record)
				cost, first, other := p.Cost(), p.Here(), p.Here()
				spoil(first)
				if first == other || told(other) != want[record] || told(p.Here()) != want[record] || p.At() != record || p.Cost() != cost {
					t.Fatalf("P7: what was done to a copy of the machine changed another one, or the player, at %d, with the pace %d, of\n%s", record, pace, text)
				}
				for _, next := range want[record+1:] {
					if other.Next(); told(other) != next {
						t.Fatalf("P15.1: from %d a copy of the machine goes on to\n%s\nwant\n%s", record, told(other), next)
					}
				}
			}
			for record := len(want) - 1; record >= 0; record-- {
				spoil(p.Here())
				wantTo(t, p, record, pace-1, want)
			}
		}
	}
}

// Two players of the same code don't move one another.
func TestPlayersGoByThemselves(t *testing.T) {
	want := places(t, built(t, twelve), fits)
	c := built(t, twelve)
	p, _ := seek.New(c, fits, 2)
	q, _ := seek.New(c, fits, 2)
	for record := range want {
		wantTo(t, p, record, 1, want)
		wantAt(t, q, 0, want)
	}
	wantNoTo(t, q, 13, 12)
	wantTo(t, q, 5, 1, want)
	wantAt(t, p, 12, want)
}

// What is asked of a player doesn't move it, nor cost anything.
func TestQuestionsStay(t *testing.T) {
	want := places(t, built(t, twelve), fits)
	p := opened(t, twelve, fits, 5)
	for _, record := range []int{0, 7, 12, 3} {
		p.To(record)
		cost, shots := p.Cost(), p.Shots()
		for range 5 {
			wantAt(t, p, record, want)
			if p.Cost() != cost || p.Shots() != shots || p.Pace() != 5 {
				t.Errorf("P15.1: what was asked at %d changed the cost to %d, the shots to %d, the pace to %d", record, p.Cost(), p.Shots(), p.Pace())
			}
		}
	}
}

// Nothing is promised of a player that New didn't make, but that no call panics.
func TestAPlayerThatNewDidntMake(t *testing.T) {
	for _, record := range []int{-1, 0, 1, api.MaxSteps} {
		var p, q seek.Player
		p.To(record)
		p.End()
		p.To(record)
		q.End()
		q.To(record)
		for _, x := range []*seek.Player{&p, &q, {}} {
			x.At()
			x.Here()
			if x.Shots() != 0 || x.Pace() != 1 {
				t.Errorf("a player of nothing has %d shots, the pace %d", x.Shots(), x.Pace())
			}
		}
	}
}

// The longest run there is, at each of whose records something is in 62 calls with 60 arrays each, which are much memory if each shot has arrays of its own.
func TestTheLongestRun(t *testing.T) {
	arrays := ""
	for n := range 60 {
		arrays += "var a" + string(rune('a'+n%26)) + string(rune('a'+n/26)) + "[64]; "
	}
	text := "func main() { f(61); }\nfunc f(n) { " + arrays + "if n > 1 { f(n - 1); return; } while true { aaa[n] = aaa[n] + 1; print aaa[1]; } }"
	for _, pace := range []int{1, 1000} {
		p := opened(t, text, world.World{Steps: api.MaxSteps}, pace)
		if n := p.End(); n != api.MaxSteps || p.Cost() != n+1 || p.Shots() != n/pace {
			t.Fatalf("P15.4: of the longest run End is %d, the cost %d, with %d shots, with the pace %d", n, p.Cost(), p.Shots(), pace)
		}
		lines := strings.Count(p.Here().Out(), "\n")
		for at := api.MaxSteps; at >= 0; at -= 777 {
			cost := p.Cost()
			if e := p.To(at); e != api.OK || p.At() != at || p.Cost()-cost >= pace {
				t.Errorf("P15.3: To(%d): %d, at %d, which costs %d, with the pace %d", at, e, p.At(), p.Cost()-cost, pace)
			}
			m := p.Here()
			if now := strings.Count(m.Out(), "\n"); now > lines || at < api.MaxSteps && m.Steps() != at+1 {
				t.Errorf("P15.1: at %d there are %d lines of output, %d steps", at, now, m.Steps())
			} else {
				lines = now
			}
		}
		wantNoTo(t, p, api.MaxSteps+1, 0)
	}
}

// Step by step through the longest run, there and back: who made the output anew at each To would take very long.
func TestStepByStep(t *testing.T) {
	p := opened(t, "func main() { var x = 900000000 * 1000000000; while true { print x; print -x; } }", world.World{Steps: api.MaxSteps}, 1000)
	for record := range api.MaxSteps + 1 {
		if e := p.To(record); e != api.OK || p.At() != record {
			t.Fatalf("P15.1: To(%d): %d, at %d", record, e, p.At())
		}
	}
	if p.Cost() != api.MaxSteps+1 {
		t.Errorf("P15.1: step by step to the end costs %d, want %d", p.Cost(), api.MaxSteps+1)
	}
	for record := api.MaxSteps; record > api.MaxSteps-100; record-- {
		if e := p.To(record); e != api.OK || p.At() != record {
			t.Fatalf("P15.1: To(%d): %d, at %d", record, e, p.At())
		}
	}
}
