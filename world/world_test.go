package world_test

import (
	"math"
	"slices"
	"strings"
	"testing"

	"rewind/api"
	"rewind/world"
)

const mostInputs = 1000

// same: two worlds, of which an empty list may be nil or empty.
func same(a, b world.World) bool {
	return a.Steps == b.Steps && slices.Equal(a.Inputs, b.Inputs)
}

// wantGood: a world that may be, of this text.
func wantGood(t *testing.T, w world.World, text string) {
	t.Helper()
	if e := w.Good(); e != api.OK {
		t.Errorf("P12.1: Good of %v: %d", w, e)
	}
	if s := w.Text(); s != text {
		t.Errorf("P12.1: Text of %v: %q, want %q", w, s, text)
	}
	wantParsed(t, text, w)
	tape, e := world.Open(w)
	if e != api.OK || tape == nil {
		t.Fatalf("P12.1: Open of %v: %d", w, e)
	}
	if l := slices.Collect(tape.Left()); tape.At() != 0 || !slices.Equal(l, w.Inputs) {
		t.Errorf("P12.1: a new tape of %v: at %d, left %v", w, tape.At(), l)
	}
}

// wantBad: a world that may not be.
func wantBad(t *testing.T, w world.World) {
	t.Helper()
	if e := w.Good(); e != api.ErrRange {
		t.Errorf("P12.1: Good of %d steps, %d inputs: %d, want ErrRange", w.Steps, len(w.Inputs), e)
	}
	if s := w.Text(); s != "" {
		t.Errorf("P12.1: Text of %d steps, %d inputs: %q, want none", w.Steps, len(w.Inputs), s)
	}
	if tape, e := world.Open(w); tape != nil || e != api.ErrRange {
		t.Errorf("P12.1: Open of %d steps, %d inputs: %v, %d, want ErrRange", w.Steps, len(w.Inputs), tape, e)
	}
}

func wantParsed(t *testing.T, text string, want world.World) {
	t.Helper()
	w, e := world.Parse(text)
	if e != api.OK || !same(w, want) {
		t.Errorf("P12.2: Parse(%q): %v, %d, want %v", text, w, e, want)
	}
	if s := w.Text(); s != text {
		t.Errorf("P12.2: what was parsed of %q has the text %q", text, s)
	}
}

func wantFault(t *testing.T, text string, want api.Errno) {
	t.Helper()
	if w, e := world.Parse(text); e != want || w.Steps != 0 || len(w.Inputs) != 0 {
		t.Errorf("P12.1: Parse(%q): %v, %d, want nothing and %d", text, w, e, want)
	}
}

func TestGoodWorlds(t *testing.T) {
	wantGood(t, world.World{Steps: 5, Inputs: []int{-1, 7}}, "steps 5 -1 7\n")
	wantGood(t, world.World{}, "steps 0\n")
	wantGood(t, world.World{Inputs: []int{}}, "steps 0\n")
	wantGood(t, world.World{Inputs: []int{0}}, "steps 0 0\n")
	wantGood(t, world.World{Steps: 1}, "steps 1\n")
	wantGood(t, world.World{Steps: 99999, Inputs: []int{3, 3, 3}}, "steps 99999 3 3 3\n")
	wantGood(t, world.World{Steps: 100000, Inputs: []int{100001}}, "steps 100000 100001\n")
}

func TestInputsAsTold(t *testing.T) {
	for n, text := range map[int]string{
		0: "0", 9: "9", 10: "10", -1: "-1", -10: "-10", 100: "100", 1 << 31: "2147483648", -1 << 31: "-2147483648",
		1<<53 + 1: "9007199254740993", math.MaxInt: "9223372036854775807", math.MinInt: "-9223372036854775808",
		math.MaxInt - 1: "9223372036854775806", math.MinInt + 1: "-9223372036854775807",
	} {
		wantGood(t, world.World{Steps: 7, Inputs: []int{n}}, "steps 7 "+text+"\n")
		wantGood(t, world.World{Steps: 7, Inputs: []int{n, 1, n}}, "steps 7 "+text+" 1 "+text+"\n")
	}
}

func TestMostInputs(t *testing.T) {
	for _, n := range []int{mostInputs - 1, mostInputs} {
		w := world.World{Steps: n, Inputs: slices.Repeat([]int{-12}, n)}
		wantGood(t, w, "steps "+map[int]string{999: "999", 1000: "1000"}[n]+strings.Repeat(" -12", n)+"\n")
	}
}

func TestWorldsThatMayNotBe(t *testing.T) {
	for _, steps := range []int{-1, -2, math.MinInt, 100001, 100002, 1 << 32, math.MaxInt} {
		wantBad(t, world.World{Steps: steps})
		wantBad(t, world.World{Steps: steps, Inputs: []int{1, 2}})
		wantBad(t, world.World{Steps: steps, Inputs: make([]int, mostInputs+1)})
	}
	for _, n := range []int{mostInputs + 1, mostInputs + 2, 5000} {
		wantBad(t, world.World{Inputs: make([]int, n)})
		wantBad(t, world.World{Steps: 100000, Inputs: make([]int, n)})
	}
}

// Spare room has no inputs.
func TestSpareRoomIsNoInput(t *testing.T) {
	wantGood(t, world.World{Inputs: make([]int, 2, 5000)}, "steps 0 0 0\n")
	wantGood(t, world.World{Inputs: make([]int, 0, 5000)}, "steps 0\n")
}

func TestTextsOutside(t *testing.T) {
	for _, s := range []string{
		"steps -1\n", "steps -1 5\n", "steps 100001\n", "steps 100001 -1 7\n", "steps -9223372036854775808\n", "steps 9223372036854775807 1\n",
		"steps 0" + strings.Repeat(" 0", mostInputs+1) + "\n",
		"steps 5" + strings.Repeat(" -7", mostInputs+2) + "\n",
		"steps -1" + strings.Repeat(" 1", 3*mostInputs) + "\n",
		"steps 5" + strings.Repeat(" 8", 300000) + "\n",
	} {
		wantFault(t, s, api.ErrRange)
	}
}

// ErrParse stands ahead of ErrRange, wherever what is wrong stands.
func TestParseStandsAheadOfRange(t *testing.T) {
	for _, s := range []string{
		"steps -1", "steps -1 \n", "steps -1 x\n", "steps -1 5 05\n", "steps 100001 -0\n", "steps 100001\n\n",
		"steps 100001 9223372036854775808\n", "steps -9223372036854775809\n",
		"steps 0" + strings.Repeat(" 0", mostInputs+1),
		"steps 0" + strings.Repeat(" 0", mostInputs+1) + " \n",
		"steps 0" + strings.Repeat(" 0", mostInputs) + " 00\n",
		"steps 0" + strings.Repeat(" 0", mostInputs+1) + " 00\n",
		"steps 0" + strings.Repeat(" 0", 300000) + " x\n",
		"steps x" + strings.Repeat(" 0", mostInputs+1) + "\n",
	} {
		wantFault(t, s, api.ErrParse)
	}
}

func TestTextsOfNoWorld(t *testing.T) {
	for _, s := range []string{
		"", "\n", " ", "s", "steps", "steps ", "steps\n", "steps \n", "steps  \n", "steps\n5\n", "steps5\n", "step 5\n", "stepss 5\n",
		"Steps 5\n", "STEPS 5\n", " steps 5\n", "\nsteps 5\n", "5\n", "5 1\n", "steps steps 5\n", "steps 5 steps 5\n", "\ufeffsteps 5\n",
		"steps 5", "steps 5 1", "steps 5\r\n", "steps 5\n\n", "steps 5\n ", "steps 5\nx", "steps 5 1\n2\n", "steps 5\n1\n", "steps 5\nsteps 5\n", "steps 5\x00", "steps 5\n\x00",
		"steps 5 \n", "steps 5 1 \n", "steps  5\n", "steps 5  1\n", "steps 5 1  2\n", "steps\t5\n", "steps 5\t1\n", "steps 5,1\n", "steps 5, 1\n", "steps 5 1;\n", "steps 5\u00a01\n", "steps 5\v1\n",
	} {
		wantFault(t, s, api.ErrParse)
	}
}

func TestNumbersNotAsTold(t *testing.T) {
	for _, n := range []string{
		"", "-", "+", "+5", "-0", "+0", "00", "05", "-05", "0005", "5.", "5.0", ".5", "5e1", "0x5", "0b1", "0o5", "1_0", "--5", "5-", "- 5", "-+5", "a", "a5", "5a", "٥", "\u22125", "５", "true", "nil", "NaN", "Inf",
		"9223372036854775808", "-9223372036854775809", "18446744073709551616", "18446744073709551621", strings.Repeat("9", 1000), strings.Repeat("0", 1000), "5\x00", "\x005", "\xff", "5\r",
	} {
		wantFault(t, "steps "+n+"\n", api.ErrParse)
		wantFault(t, "steps "+n+" 1\n", api.ErrParse)
		wantFault(t, "steps 5 "+n+"\n", api.ErrParse)
		wantFault(t, "steps 5 1 "+n+"\n", api.ErrParse)
		wantFault(t, "steps 5 "+n+" 1\n", api.ErrParse)
	}
}
