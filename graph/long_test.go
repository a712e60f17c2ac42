package graph_test

import (
	"fmt"
	"math/rand"
	"runtime"
	"testing"

	"rewind/api"
	"rewind/world"
)

// counts counts in a call that the record 0 waits for: the record 1 makes i, the records 2, 4 and so on are the while's, 3, 5 and so on the counting's, the last one is the return.
const counts = "func main() { print f(); }\nfunc f() int { var i = 0; while i < 49000 { i = i + 1; } return i; }"

const countsReturn = 2 + 2*49000 + 1

// wantOfCounts: what the words say of a record of counts.
func wantOfCounts(record int) string {
	switch {
	case record == 0:
		return fmt.Sprintf("0: 1.-1<%d by -1", countsReturn)
	case record == 1:
		return "1: by 0"
	case record == 2:
		return "2: 1.0<1 by 0"
	case record == 3:
		return "3: 1.0<1 by 2"
	case record == countsReturn:
		return fmt.Sprintf("%d: 1.0<%d by 0", record, record-2)
	case record%2 == 0:
		return fmt.Sprintf("%d: 1.0<%d by %d", record, record-1, record-2)
	}
	return fmt.Sprintf("%d: 1.0<%d by %d", record, record-2, record-1)
}

func TestALongWait(t *testing.T) {
	r := rand.New(rand.NewSource(1))
	for _, x := range []struct{ pace, room int }{{1, 1}, {1, 1000}, {40, 3}, {1000, 1}, {1000, 1000}} {
		g := opened(t, counts, world.World{Steps: api.MaxSteps}, x.pace, x.room)
		if g.Len() != countsReturn+1 {
			t.Fatalf("P16.1: %d records, want %d", g.Len(), countsReturn+1)
		}
		want := func(record int) {
			if got := told(t, g, record); got != wantOfCounts(record) {
				t.Fatalf("P16.1: with the pace %d, the room %d, it says %s, want %s", x.pace, x.room, got, wantOfCounts(record))
			}
		}
		for record := range g.Len() {
			want(record)
		}
		for range 300 {
			want(r.Intn(g.Len()))
			want(r.Intn(3))
		}
		if g.Kept() > x.room {
			t.Errorf("P16.2: %d windows are kept, the room is %d", g.Kept(), x.room)
		}
	}
}

// The longest run there is, in 64 calls, all but the innermost of which wait for its whole time, and have 60 arrays each: what is known where windows begin is much memory if each has lists of its own.
func TestTheLongestRun(t *testing.T) {
	arrays := ""
	for n := range 60 {
		arrays += "var a" + string(rune('a'+n%26)) + string(rune('a'+n/26)) + "[64]; "
	}
	text := "func main() { f(62); }\nfunc f(n) { " + arrays + "if n > 0 { f(n - 1); return; } while true { aaa[9] = aaa[9] + 1; aba[n] = aaa[8]; } }"
	// A call has 60 records of its arrays, its if, and its call; the innermost one no call, but then three for each time around.
	first := 1 + 62*62 + 61
	for _, x := range []struct{ pace, room int }{{1, 1}, {1000, 3}} {
		g := opened(t, text, world.World{Steps: api.MaxSteps}, x.pace, x.room)
		if g.Len() != api.MaxSteps {
			t.Fatalf("P16.1: %d records, want %d", g.Len(), api.MaxSteps)
		}
		made := first - 61 // the innermost call's first array
		for record := first + 3; record < g.Len()-3; record += 3 * 511 {
			while := fmt.Sprintf("%d: by %d", record, record-3)
			count := fmt.Sprintf("%d: 63.1[9]<%d by %d", record+1, record-2, record)
			put := fmt.Sprintf("%d: 63.0<%d 63.1[8]<%d by %d", record+2, 1+61*62+61, made, record)
			for n, want := range []string{while, count, put} {
				if got := told(t, g, record+n); got != want {
					t.Fatalf("P16.1: with the pace %d it says %s, want %s", x.pace, got, want)
				}
			}
		}
		for n := range 62 {
			record := 1 + 62*n + 60
			call := 1 + 62*(n-1) + 61
			if n == 0 {
				call = 0
			}
			if got, want := told(t, g, record), fmt.Sprintf("%d: %d.0<%d by %d", record, n+1, call, call); got != want {
				t.Fatalf("P16.1: with the pace %d it says %s, want %s", x.pace, got, want)
			}
			if got, want := told(t, g, record+1), fmt.Sprintf("%d: %d.0<%d by %d", record+1, n+1, call, record); got != want {
				t.Fatalf("P16.1: with the pace %d it says %s, want %s", x.pace, got, want)
			}
		}
	}
}

// Who goes through all that a record called ahead, at each of its reads, takes very long.
func TestManyCallsInOneRecord(t *testing.T) {
	text := "func main() { var x = 1; while true { print "
	for range 3000 {
		text += "e(x)+"
	}
	g := opened(t, text+"x; } }\nfunc e(n) int { }", world.World{Steps: 201}, 10, 1)
	for record := 2; record < g.Len(); record += 2 {
		l, e := g.Reads(record)
		if e != api.OK || len(l) != 6001 {
			t.Fatalf("P16.1: Reads(%d): %d reads, %d, want 6001", record, len(l), e)
		}
		for n, x := range l {
			want := 0
			if n%2 == 1 {
				want = -1 // it is what a call answers that ended without a return
			}
			if x.Writer != want {
				t.Fatalf("P16.1: of Reads(%d) the read %d is %v, want the writer %d", record, n, x, want)
			}
		}
	}
}

// Shots that have an output of their own each, of 100,000 bytes and more, are much memory.
func TestALongOutput(t *testing.T) {
	g := opened(t, "func main() { var x = 100000; while true { x = x + 1; print x; } }", world.World{Steps: api.MaxSteps}, 1, 1)
	for record := range g.Len() {
		g.By(record)
	}
	var m runtime.MemStats
	runtime.GC()
	runtime.ReadMemStats(&m)
	if m.HeapAlloc > 500<<20 {
		t.Errorf("a graph of the longest run, with the pace 1, has %d MB", m.HeapAlloc>>20)
	}
	if got := told(t, g, api.MaxSteps-1); got != "99999: 0.0<99998 by 99997" {
		t.Errorf("P16.1: it says %s", got)
	}
}
