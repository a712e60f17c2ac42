package world_test

import (
	"math"
	"slices"
	"testing"

	"rewind/api"
	"rewind/world"
)

func opened(t *testing.T, inputs ...int) *world.Tape {
	t.Helper()
	tape, e := world.Open(world.World{Steps: 5, Inputs: inputs})
	if e != api.OK {
		t.Fatalf("P12.1: Open of %v: %d", inputs, e)
	}
	return tape
}

// wantTape: a tape is at a place, and these inputs are left.
func wantTape(t *testing.T, tape *world.Tape, at int, left ...int) {
	t.Helper()
	if tape.At() != at {
		t.Errorf("P12.1: At: %d, want %d", tape.At(), at)
	}
	if l := slices.Collect(tape.Left()); !slices.Equal(l, left) {
		t.Errorf("P12.1: Left at %d: %v, want %v", at, l, left)
	}
	if tape.At() != at {
		t.Errorf("P12.1: Left took inputs: at %d, want %d", tape.At(), at)
	}
}

func wantTake(t *testing.T, tape *world.Tape, want int, fault api.Errno) {
	t.Helper()
	if n, e := tape.Take(); n != want || e != fault {
		t.Errorf("P12.1: Take: %d, %d, want %d, %d", n, e, want, fault)
	}
}

func TestTakeAll(t *testing.T) {
	tape := opened(t, -1, 7, 7, 0, math.MinInt, math.MaxInt)
	all := []int{-1, 7, 7, 0, math.MinInt, math.MaxInt}
	for at, n := range all {
		wantTape(t, tape, at, all[at:]...)
		wantTake(t, tape, n, api.OK)
	}
	for range 3 {
		wantTape(t, tape, 6)
		wantTake(t, tape, 0, api.ErrInput)
	}
}

func TestTapeOfNone(t *testing.T) {
	tape := opened(t)
	for range 3 {
		wantTape(t, tape, 0)
		wantTake(t, tape, 0, api.ErrInput)
	}
	for _, at := range []int{-1, 1, math.MinInt, math.MaxInt} {
		if e := tape.Go(at); e != api.ErrRange {
			t.Errorf("P12.1: Go(%d) of no inputs: %d, want ErrRange", at, e)
		}
	}
	if e := tape.Go(0); e != api.OK {
		t.Errorf("P12.1: Go(0) of no inputs: %d", e)
	}
	wantTape(t, tape, 0)
}

func TestTapeOfMost(t *testing.T) {
	var all []int
	for n := range mostInputs {
		all = append(all, n*n)
	}
	tape := opened(t, all...)
	for at, n := range all {
		if tape.At() != at {
			t.Fatalf("P12.1: At: %d, want %d", tape.At(), at)
		}
		wantTake(t, tape, n, api.OK)
	}
	wantTake(t, tape, 0, api.ErrInput)
	wantTape(t, tape, mostInputs)
	if e := tape.Go(mostInputs + 1); e != api.ErrRange {
		t.Errorf("P12.1: Go(1001): %d, want ErrRange", e)
	}
	if e := tape.Go(mostInputs - 1); e != api.OK {
		t.Errorf("P12.1: Go(999): %d", e)
	}
	wantTape(t, tape, mostInputs-1, all[mostInputs-1])
}

// From each place to each other one, and to what is none.
func TestGo(t *testing.T) {
	all := []int{4, -5, 6}
	for from := range 4 {
		for _, to := range []int{0, 1, 2, 3, -1, -2, -3, -4, 4, 5, 1 << 32, math.MaxInt, math.MinInt} {
			tape := opened(t, all...)
			if e := tape.Go(from); e != api.OK {
				t.Errorf("P12.1: Go(%d): %d", from, e)
			}
			want, at := api.OK, to
			if to < 0 || to > 3 {
				want, at = api.ErrRange, from
			}
			if e := tape.Go(to); e != want {
				t.Errorf("P12.1: Go(%d) at %d: %d, want %d", to, from, e, want)
			}
			wantTape(t, tape, at, all[at:]...)
		}
	}
}

func TestTakeAgain(t *testing.T) {
	tape := opened(t, 4, -5, 6)
	wantTake(t, tape, 4, api.OK)
	wantTake(t, tape, -5, api.OK)
	tape.Go(1)
	wantTake(t, tape, -5, api.OK)
	wantTake(t, tape, 6, api.OK)
	wantTake(t, tape, 0, api.ErrInput)
	tape.Go(0)
	wantTape(t, tape, 0, 4, -5, 6)
	tape.Go(3)
	wantTake(t, tape, 0, api.ErrInput)
	tape.Go(2)
	wantTake(t, tape, 6, api.OK)
}

func TestLeftEndsEarly(t *testing.T) {
	all := []int{4, -5, 6, 7}
	for from := range 5 {
		for stop := 1; stop <= len(all)-from; stop++ {
			tape := opened(t, all...)
			tape.Go(from)
			var got []int
			tape.Left()(func(n int) bool {
				got = append(got, n)
				return len(got) < stop
			})
			if !slices.Equal(got, all[from:from+stop]) {
				t.Errorf("P12.1: Left at %d, told to end at %d things: %v", from, stop, got)
			}
			wantTape(t, tape, from, all[from:]...)
		}
	}
}

// What was left when Left was asked is what it gives, as often as it is gone through, wherever the tape is by then.
func TestLeftAsOftenAsGoneThrough(t *testing.T) {
	tape := opened(t, 4, -5, 6)
	tape.Go(1)
	left := tape.Left()
	for at := range 4 {
		tape.Go(at)
		if l := slices.Collect(left); !slices.Equal(l, []int{-5, 6}) {
			t.Errorf("P7: Left of an earlier place, gone through at %d: %v", at, l)
		}
		if tape.At() != at {
			t.Errorf("P12.1: Left took inputs: at %d, want %d", tape.At(), at)
		}
	}
}

func TestTakeWhileLeftIsGoneThrough(t *testing.T) {
	tape := opened(t, 4, -5, 6)
	var got []int
	for n := range tape.Left() {
		got = append(got, n)
		wantTake(t, tape, n, api.OK)
		for m := range tape.Left() { // one inside the other
			got = append(got, m)
			break
		}
	}
	if !slices.Equal(got, []int{4, -5, -5, 6, 6}) {
		t.Errorf("P12.1: Left, with Takes between: %v", got)
	}
	wantTape(t, tape, 3)
}

func TestTapesAreApart(t *testing.T) {
	w := world.World{Inputs: []int{4, -5, 6}}
	a, _ := world.Open(w)
	b, _ := world.Open(w)
	wantTake(t, a, 4, api.OK)
	wantTake(t, a, -5, api.OK)
	wantTape(t, b, 0, 4, -5, 6)
	b.Go(3)
	wantTape(t, a, 2, 6)
	wantTape(t, b, 3)
}

// A tape's world's steps play no part in what is taken of it.
func TestStepsAreNoInputs(t *testing.T) {
	for _, steps := range []int{0, 1, 100000} {
		tape, e := world.Open(world.World{Steps: steps, Inputs: []int{8, 9}})
		if e != api.OK {
			t.Fatalf("P12.1: Open: %d", e)
		}
		wantTape(t, tape, 0, 8, 9)
		wantTake(t, tape, 8, api.OK)
		wantTake(t, tape, 9, api.OK)
		wantTake(t, tape, 0, api.ErrInput)
	}
}

// A tape's world can be reached, and be made shorter than the tape's place: no call panics.
func TestTapeOfAWorldThatWasMadeShorter(t *testing.T) {
	for size := range 3 {
		tape := opened(t, 4, -5, 6)
		tape.Go(3)
		tape.Inputs = tape.Inputs[:size]
		wantTape(t, tape, 3)
		wantTake(t, tape, 0, api.ErrInput)
		if e := tape.Go(3); e != api.ErrRange {
			t.Errorf("P6: Go(3) of %d inputs: %d, want ErrRange", size, e)
		}
		if e := tape.Go(size); e != api.OK {
			t.Errorf("P6: Go(%d) of %d inputs: %d", size, size, e)
		}
		wantTape(t, tape, size)
	}
}
