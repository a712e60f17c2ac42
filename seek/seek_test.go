package seek_test

import (
	"fmt"
	"math"
	"slices"
	"strconv"
	"testing"

	"rewind/api"
	"rewind/check"
	"rewind/code"
	"rewind/mach"
	"rewind/make"
	"rewind/seek"
	"rewind/syntax"
	"rewind/world"
)

// built: a text's code, which must be right.
func built(t *testing.T, text string) code.Code {
	t.Helper()
	p, at, e := syntax.Parse(text)
	info, where, f := check.Check(p)
	c, g := make.Make(p, info)
	if e != api.OK || f != api.OK || g != api.OK {
		t.Fatalf("no code of %.2000q: Parse %d, %d; Check %d, %d; Make %d", text, at, e, where, f, g)
	}
	return c
}

func opened(t *testing.T, text string, w world.World, pace int) *seek.Player {
	t.Helper()
	p, e := seek.New(built(t, text), w, pace)
	if e != api.OK || p == nil {
		t.Fatalf("P15.1: New of %.2000q: %d, want a player", text, e)
	}
	return p
}

// told: all that a machine tells.
func told(m *mach.Machine) string {
	ended, end := m.Ended()
	return fmt.Sprint(ended, end, m.Steps(), m.Taken(), m.Frames(), m.Touches(), strconv.Quote(m.Out()))
}

// places: what a machine tells at each record, and at the end.
func places(t *testing.T, c code.Code, w world.World) []string {
	t.Helper()
	m, e := mach.New(c, w)
	if e != api.OK {
		t.Fatal(e)
	}
	var out []string
	for next := true; next; {
		next = m.Next()
		out = append(out, told(m))
	}
	return out
}

// wantAt: a player is at a record, with a machine that tells what there is.
func wantAt(t *testing.T, p *seek.Player, at int, want []string) {
	t.Helper()
	if got := p.At(); got != at {
		t.Errorf("P15.1: at %d, want %d", got, at)
		return
	}
	if got := told(p.Here()); got != want[at] {
		t.Errorf("P15.1: at %d of %d, with the pace %d, its machine tells\n%s\nwant\n%s", at, len(want)-1, p.Pace(), got, want[at])
	}
}

// wantTo: a To there costs as much as may be, and leads there.
func wantTo(t *testing.T, p *seek.Player, record, most int, want []string) {
	t.Helper()
	cost := p.Cost()
	if e := p.To(record); e != api.OK {
		t.Errorf("P15.1: To(%d): %d, want 0", record, e)
	}
	if got := p.Cost() - cost; got < 0 || got > most {
		t.Errorf("P15.3: To(%d) costs %d, with the pace %d, want %d at most", record, got, p.Pace(), most)
	}
	wantAt(t, p, record, want)
}

// wantNoTo: a To there is ErrRange, costs just that, and leads nowhere.
func wantNoTo(t *testing.T, p *seek.Player, record, cost int) {
	t.Helper()
	at, before, here := p.At(), p.Cost(), told(p.Here())
	if e := p.To(record); e != api.ErrRange {
		t.Errorf("P15.1: To(%d): %d, want %d", record, e, api.ErrRange)
	}
	if got := p.Cost() - before; got != cost {
		t.Errorf("P15.3: To(%d) costs %d, want %d", record, got, cost)
	}
	if p.At() != at || told(p.Here()) != here {
		t.Errorf("P15.1: behind a To(%d) that is ErrRange the player is at %d, with a machine that tells\n%s\nwant %d,\n%s", record, p.At(), told(p.Here()), at, here)
	}
}

// wantEnd: an End costs just that, and leads there.
func wantEnd(t *testing.T, p *seek.Player, cost int, want []string) {
	t.Helper()
	before := p.Cost()
	if n := p.End(); n != len(want)-1 {
		t.Errorf("P15.1: End: %d, want %d", n, len(want)-1)
	}
	if got := p.Cost() - before; got != cost {
		t.Errorf("P15.4: End costs %d, want %d", got, cost)
	}
	wantAt(t, p, len(want)-1, want)
}

// twelve has so many records, of which the calls' are 3 and 4, 8 and 9; read, print, an array, and both ways of an if are among them.
const twelve = "func main() { var a[2]; var x = read; a[1] = f(x); if a[1] > 3 { print a[1]; } a[0] = f(a[1] - 9); if a[0] < 0 { print x; } }\nfunc f(n) int { n = n * 2; return n; }"

var fits = world.World{Steps: 50, Inputs: []int{4, 5}}

// paces: those that there are at both ends, and such as twelve may be divided by, or not.
var paces = []int{1, 2, 3, 4, 5, 6, 7, 11, 12, 13, 999, 1000}

func TestTwelveRecords(t *testing.T) {
	if want := places(t, built(t, twelve), fits); len(want) != 13 {
		t.Fatalf("there are %d records, want 12", len(want)-1)
	}
}

func TestANewPlayerIsAtTheFirstRecord(t *testing.T) {
	want := places(t, built(t, twelve), fits)
	for _, pace := range paces {
		p := opened(t, twelve, fits, pace)
		wantAt(t, p, 0, want)
		if p.Shots() != 1 {
			t.Errorf("P15.1: a new player has %d shots, want 1, at its record 0", p.Shots())
		}
		if p.Cost() != 1 {
			t.Errorf("P15.1: New costs %d, want the one Next to the record 0", p.Cost())
		}
	}
}

func TestPace(t *testing.T) {
	for _, x := range []struct{ told, want int }{
		{1, 1}, {2, 2}, {500, 500}, {999, 999}, {1000, 1000}, {1001, 1000}, {0, 1}, {-1, 1}, {-1000, 1}, {math.MaxInt, 1000}, {math.MinInt, 1},
	} {
		p := opened(t, twelve, fits, x.told)
		if got := p.Pace(); got != x.want {
			t.Errorf("P15.1: told the pace %d it has %d, want %d", x.told, got, x.want)
		}
		p.End()
		if got := p.Shots(); got != (12+x.want-1)/x.want {
			t.Errorf("P15.1: told the pace %d it has %d shots of 12 records", x.told, got)
		}
	}
}

func TestNewOfWhatIsWrong(t *testing.T) {
	good := built(t, twelve)
	params, _, e := code.Parse("proc f 1 1 4\nreturn 0\n")
	if e != api.OK {
		t.Fatal(e)
	}
	many := world.World{Inputs: slices.Repeat([]int{0}, 1001)}
	for _, x := range []struct {
		c    code.Code
		w    world.World
		want api.Errno
	}{
		{code.Code{}, fits, api.ErrParse},
		{code.Code{Procs: good.Procs}, fits, api.ErrParse},
		{code.Code{}, world.World{Steps: -1}, api.ErrParse},
		{good, world.World{Steps: -1}, api.ErrRange},
		{good, world.World{Steps: api.MaxSteps + 1}, api.ErrRange},
		{good, many, api.ErrRange},
		{params, fits, api.ErrRange},
		{params, world.World{Steps: math.MinInt}, api.ErrRange},
	} {
		for _, pace := range []int{5, -1, 2000} {
			if p, e := seek.New(x.c, x.w, pace); e != x.want || p != nil {
				t.Errorf("P15.1: New of %v, %d steps, %d inputs: %v, %d, want no player, %d", x.c, x.w.Steps, len(x.w.Inputs), p, e, x.want)
			}
		}
	}
}

// From each place to each other one, of players that have been at the end, and of such as have never been beyond where they go.
func TestEachWay(t *testing.T) {
	want := places(t, built(t, twelve), fits)
	for _, pace := range paces {
		for from := range want {
			for to := range want {
				p := opened(t, twelve, fits, pace)
				wantTo(t, p, from, from+1, want)
				wantTo(t, p, to, max(to-from, pace-1), want)
				p = opened(t, twelve, fits, pace)
				p.End()
				wantTo(t, p, from, pace-1, want)
				wantTo(t, p, to, pace-1, want)
				wantEnd(t, p, 0, want)
				wantTo(t, p, from, pace-1, want)
			}
		}
	}
}

// With the pace 1 no To to where it has been costs anything, the end with them.
func TestPaceOneCostsNothing(t *testing.T) {
	want := places(t, built(t, twelve), fits)
	p := opened(t, twelve, fits, 1)
	wantTo(t, p, 6, 6, want)
	for _, record := range []int{0, 6, 5, 3, 4, 6, 1} {
		wantTo(t, p, record, 0, want)
	}
	wantEnd(t, p, 6, want)
	for record := range want {
		wantTo(t, p, record, 0, want)
		wantTo(t, p, 12, 0, want)
		wantTo(t, p, 12-record, 0, want)
	}
}

// It knows N only when it has been at the end: not at the last record, nor by the world's steps.
func TestToBeyondTheEnd(t *testing.T) {
	want := places(t, built(t, twelve), fits)
	for _, pace := range paces {
		for _, above := range []int{13, 14, 50, 51, 1000, api.MaxSteps - 1, api.MaxSteps, api.MaxSteps + 1, math.MaxInt} {
			p := opened(t, twelve, fits, pace)
			wantNoTo(t, p, above, 12)
			if got := p.Shots(); got != (12+pace-1)/pace {
				t.Errorf("P15.1: who has looked for the end, with the pace %d, has %d shots", pace, got)
			}
			wantNoTo(t, p, above, 0)
			wantNoTo(t, p, 13, 0)
			wantTo(t, p, 12, pace-1, want)
			wantNoTo(t, p, above, 0)
			wantEnd(t, p, 0, want)
			wantTo(t, p, 7, pace-1, want)
			wantNoTo(t, p, above, 0)
			p = opened(t, twelve, fits, pace)
			wantTo(t, p, 11, 11, want)
			wantNoTo(t, p, above, 1)
			wantTo(t, p, 12, pace-1, want)
		}
	}
}

func TestToAheadOfAll(t *testing.T) {
	want := places(t, built(t, twelve), fits)
	for _, pace := range paces {
		p := opened(t, twelve, fits, pace)
		for _, below := range []int{-1, -2, -12, -pace, -1001, math.MinInt, math.MinInt + 1} {
			wantNoTo(t, p, below, 0)
		}
		wantTo(t, p, 5, 5, want)
		wantNoTo(t, p, -1, 0)
		wantEnd(t, p, 7, want)
		wantNoTo(t, p, -1, 0)
		wantNoTo(t, p, math.MinInt, 0)
	}
}

// Shots stand at the multiples of the pace as far as it ever got, however it went on and back.
func TestShots(t *testing.T) {
	want := places(t, built(t, twelve), fits)
	for _, pace := range paces {
		for far := range want {
			shots := min(far, 11)/pace + 1
			p := opened(t, twelve, fits, pace)
			for _, record := range []int{far / 2, far / 3, far, 0, far - far/3, far} {
				wantTo(t, p, record, 12, want)
			}
			if got := p.Shots(); got != shots {
				t.Errorf("P15.1: who got to %d, with the pace %d, has %d shots, want %d", far, pace, got, shots)
			}
			p.End()
			p.To(0)
			p.End()
			if got := p.Shots(); got != 11/pace+1 || got > 12/pace+1 {
				t.Errorf("P15.2: who got to the end, with the pace %d, has %d shots, want %d", pace, got, 11/pace+1)
			}
		}
	}
}

func TestEnd(t *testing.T) {
	want := places(t, built(t, twelve), fits)
	for _, pace := range paces {
		p := opened(t, twelve, fits, pace)
		wantEnd(t, p, 12, want)
		if p.Cost() != 13 {
			t.Errorf("P15.4: New and End cost %d, want 13", p.Cost())
		}
		wantEnd(t, p, 0, want)
		wantTo(t, p, 12, 0, want)
		wantEnd(t, p, 0, want)
		wantTo(t, p, 0, 0, want)
		wantTo(t, p, 0, 0, want)
		wantEnd(t, p, 0, want)
		// Who is told to go there by a number comes there as well, and then knows it.
		p = opened(t, twelve, fits, pace)
		wantTo(t, p, 12, 12, want)
		wantEnd(t, p, 0, want)
		wantNoTo(t, p, 13, 0)
	}
}

// Cost counts each Next, of ways gone before, too: from where it is, or from the last shot, whichever is nearer.
func TestCost(t *testing.T) {
	p := opened(t, twelve, fits, 5)
	p.End()
	for _, x := range []struct{ to, cost int }{
		{0, 0}, {4, 4}, {4, 0}, {3, 3}, {4, 1}, {5, 0}, {9, 4}, {8, 3}, {11, 1}, {12, 0}, {11, 1}, {6, 1}, {7, 1}, {9, 2}, {10, 0}, {12, 0}, {2, 2}, {1, 1},
	} {
		before := p.Cost()
		p.To(x.to)
		if got := p.Cost() - before; got != x.cost {
			t.Errorf("P15.1: with the pace 5 the cost of To(%d) is %d, want %d", x.to, got, x.cost)
		}
	}
}

func TestToWhereItIs(t *testing.T) {
	want := places(t, built(t, twelve), fits)
	for _, pace := range paces {
		p := opened(t, twelve, fits, pace)
		for _, record := range []int{0, 1, 4, 11, 12, 6, 9, 1, 0, 12} {
			p.To(record)
			for range 3 {
				wantTo(t, p, record, 0, want)
			}
		}
	}
}

// A program that has no record is at its end as soon as there is a player.
func TestProgramsWithoutRecords(t *testing.T) {
	for _, x := range []struct {
		text  string
		steps int
		end   api.Errno
	}{
		{"func main() { }", 9, api.OK}, {"func main() { }\nfunc f() { print 1; }", 0, api.OK}, {"func main() { print 1; }", 0, api.ErrSpent},
	} {
		w := world.World{Steps: x.steps}
		want := places(t, built(t, x.text), w)
		for _, pace := range paces {
			p := opened(t, x.text, w, pace)
			wantAt(t, p, 0, want)
			if ended, end := p.Here().Ended(); !ended || end != x.end {
				t.Errorf("P15.1: of a program without records the machine's end is %v, %d, want %d", ended, end, x.end)
			}
			wantNoTo(t, p, 1, 0)
			wantNoTo(t, p, -1, 0)
			wantTo(t, p, 0, 0, want)
			wantEnd(t, p, 0, want)
			wantEnd(t, p, 0, want)
			if p.Cost() != 1 || p.Shots() != 0 {
				t.Errorf("P15.4: of a program without records: the cost %d, %d shots, want 1, 0", p.Cost(), p.Shots())
			}
		}
	}
}

func TestOneRecord(t *testing.T) {
	for _, text := range []string{"func main() { print 7; }", "func main() { print 7 / 0; }", "func main() { print read; }", "func main() { while true { } }"} {
		w := world.World{Steps: 1}
		want := places(t, built(t, text), w)
		for _, pace := range paces {
			p := opened(t, text, w, pace)
			wantAt(t, p, 0, want)
			wantNoTo(t, p, 2, 1)
			wantTo(t, p, 1, 0, want)
			wantTo(t, p, 0, 0, want)
			wantEnd(t, p, 0, want)
			if p.Cost() != 2 || p.Shots() != 1 {
				t.Errorf("P15.4: of one record: the cost %d, %d shots, want 2, 1", p.Cost(), p.Shots())
			}
		}
	}
}

// Each way in which a program ends is a player's end.
func TestEachEnd(t *testing.T) {
	for _, x := range []struct {
		text string
		end  api.Errno
	}{
		{"func main() { var x = 2; print x; return; }", api.OK},
		{"func main() { var x = 3; while true { x = x - 1; print 6 / x; } }", api.ErrZero},
		{"func main() { var a[3]; var x = 0; while true { a[x] = x; x = x + 1; } }", api.ErrIndex},
		{"func main() { while true { print read; } }", api.ErrInput},
		{"func main() { f(1); }\nfunc f(n) { print n; f(n + 1); }", api.ErrStack},
		{"func main() { var x = 0; while true { x = x + 1; } }", api.ErrSpent},
	} {
		w := world.World{Steps: 200, Inputs: []int{1, 2, 3}}
		want := places(t, built(t, x.text), w)
		for _, pace := range paces {
			p := opened(t, x.text, w, pace)
			wantEnd(t, p, len(want)-1, want)
			if ended, end := p.Here().Ended(); !ended || end != x.end {
				t.Errorf("P15.1: %s\nends with %v, %d, want %d", x.text, ended, end, x.end)
			}
			for record := range want {
				wantTo(t, p, len(want)-1-record, pace-1, want)
			}
			wantNoTo(t, p, len(want), 0)
		}
	}
}
