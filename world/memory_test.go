package world_test

import (
	"cmp"
	"runtime"
	"slices"
	"strings"
	"testing"
	"unsafe"

	"rewind/api"
	"rewind/world"
)

// memory: where a list stands, spare room included.
type memory struct{ from, to uintptr }

func memoryOf(l []int) memory {
	from := uintptr(unsafe.Pointer(unsafe.SliceData(l)))
	return memory{from, from + uintptr(cap(l))*unsafe.Sizeof(int(0))}
}

func TestNoTwoListsShareMemory(t *testing.T) {
	handed := append(make([]int, 0, 10), 4, -5, 6)
	w := world.World{Inputs: handed}
	text := w.Text()
	l := []memory{memoryOf(handed)}
	var all []any
	for range 3 {
		parsed, e := world.Parse(text)
		if e != api.OK {
			t.Fatalf("P12.2: Parse(%q): %d", text, e)
		}
		for _, x := range []world.World{w, parsed} {
			tape, _ := world.Open(x)
			l = append(l, memoryOf(tape.Inputs))
			all = append(all, tape)
		}
		l = append(l, memoryOf(parsed.Inputs))
		all = append(all, parsed)
	}
	slices.SortFunc(l, func(a, b memory) int { return cmp.Compare(a.from, b.from) })
	for i := 1; i < len(l); i++ {
		if l[i].from < l[i-1].to {
			t.Errorf("P12.3: two lists share memory: %v, %v", l[i-1], l[i])
		}
	}
	runtime.KeepAlive(all)
	runtime.KeepAlive(handed)
}

// No call changes what it was handed, spare room included.
func TestWhatIsHandedInStays(t *testing.T) {
	for _, size := range []int{0, 3, mostInputs, mostInputs + 1} {
		row := make([]int, size+50)
		for i := range row {
			row[i] = i*i - 40
		}
		was := slices.Clone(row)
		w := world.World{Steps: 9, Inputs: row[:size]}
		w.Good()
		w.Text()
		if tape, e := world.Open(w); e == api.OK {
			for range size + 2 {
				tape.Take()
			}
			tape.Go(0)
			for range tape.Left() {
			}
			tape.Inputs = append(tape.Inputs, -7)
		}
		if !slices.Equal(row, was) || w.Steps != 9 || len(w.Inputs) != size {
			t.Errorf("P12.3: what was handed in, or its spare room, was changed: %d inputs", size)
		}
	}
}

// What is done to a world behind Open isn't seen on the tape.
func TestWhatIsHandedInIsNotKept(t *testing.T) {
	w := world.World{Steps: 3, Inputs: []int{4, -5, 6}}
	tape, _ := world.Open(w)
	left := tape.Left()
	w.Inputs[0], w.Inputs[1], w.Inputs[2], w.Steps = 1, 1, 1, 7
	wantTape(t, tape, 0, 4, -5, 6)
	if l := slices.Collect(left); !slices.Equal(l, []int{4, -5, 6}) {
		t.Errorf("P12.3: Left kept what was handed in: %v", l)
	}
	wantTake(t, tape, 4, api.OK)
	wantTake(t, tape, -5, api.OK)
	wantTake(t, tape, 6, api.OK)
	if s := tape.World.Text(); s != "steps 3 4 -5 6\n" {
		t.Errorf("P12.3: a tape's world hangs on what was done to what was handed in: %q", s)
	}
}

// The same answers, whatever was done to earlier ones.
func TestAnswersAreApart(t *testing.T) {
	text := strings.Clone("steps 3 4 -5 6\n")
	for range 3 {
		w, e := world.Parse(text)
		if e != api.OK || !same(w, world.World{Steps: 3, Inputs: []int{4, -5, 6}}) || w.Text() != text {
			t.Errorf("P7: Parse(%q): %v, %d", text, w, e)
		}
		all := w.Inputs[:cap(w.Inputs)]
		for i := range all {
			all[i] = -7
		}
	}
}
