package trace_test

import (
	"cmp"
	"reflect"
	"runtime"
	"slices"
	"testing"
	"unsafe"

	"rewind/api"
	"rewind/code"
	"rewind/mach"
	"rewind/trace"
	"rewind/world"
)

// memory: where a list stands, spare room included.
type memory struct{ from, to uintptr }

func memoryOf[T any](l []T) memory {
	var one T
	from := uintptr(unsafe.Pointer(unsafe.SliceData(l)))
	return memory{from, from + uintptr(cap(l))*unsafe.Sizeof(one)}
}

// scribble changes a list, spare room too.
func scribble[T any](x T, l []T) {
	for i := range l[:cap(l)] {
		l[:cap(l)][i] = x
	}
}

func TestNoTwoListsShareMemory(t *testing.T) {
	c := built(t, loop)
	inputs := append([]int{}, 0, 5)
	l := []memory{memoryOf(inputs), memoryOf(c.List), memoryOf(c.Procs)}
	var all []trace.Trace
	for range 3 {
		tr, _ := trace.Of(c, world.World{Steps: 99, Inputs: inputs})
		l = append(l, memoryOf(tr.Rows))
		for _, r := range tr.Rows {
			l = append(l, memoryOf(r.Reads), memoryOf(r.Writes))
		}
		all = append(all, tr)
	}
	l = slices.DeleteFunc(l, func(x memory) bool { return x.from == x.to })
	slices.SortFunc(l, func(a, b memory) int { return cmp.Compare(a.from, b.from) })
	for i := 1; i < len(l); i++ {
		if l[i].from < l[i-1].to {
			t.Fatalf("P7: two of %d lists share memory: %v, %v", len(l), l[i-1], l[i])
		}
	}
	if len(l) < 90 {
		t.Errorf("only %d lists", len(l))
	}
	runtime.KeepAlive(all)
	runtime.KeepAlive(inputs)
}

// withSpareRoom: a list with things behind it.
func withSpareRoom[T any](l []T, spare T) []T {
	return append(slices.Clone(l), spare, spare)[:len(l)]
}

func allOf[T any](l []T) []T { return slices.Clone(l[:cap(l)]) }

func TestWhatIsHandedInStays(t *testing.T) {
	for _, text := range pool {
		c := built(t, text)
		c.Procs, c.List = withSpareRoom(c.Procs, code.Proc{Name: "spare"}), withSpareRoom(c.List, code.Instr{Op: 99})
		inputs := withSpareRoom([]int{3, 5, 1, 4, 2}, -7)
		procs, list, row := allOf(c.Procs), allOf(c.List), allOf(inputs)
		w := world.World{Steps: 100, Inputs: inputs}
		first, _ := trace.Of(c, w)
		if !slices.Equal(procs, allOf(c.Procs)) || !slices.Equal(list, allOf(c.List)) || !slices.Equal(row, allOf(inputs)) {
			t.Errorf("P7: what was handed in, or its spare room, was changed, of\n%s", text)
		}
		want, _ := trace.Of(c, w)
		scribble(-77, inputs)
		if !reflect.DeepEqual(first, want) {
			t.Errorf("P7: a trace changed with the inputs, of\n%s", text)
		}
	}
}

// What is asked of a trace doesn't change it, and what is done to one changes no other one.
func TestTracesStay(t *testing.T) {
	for _, text := range pool {
		c, w := built(t, text), world.World{Steps: 100, Inputs: []int{3, 5, 1, 4, 2}}
		want, _ := trace.Of(c, w)
		got, _ := trace.Of(c, w)
		other, _ := trace.Of(c, w)
		for n := range 120 {
			got.Count(n%8, n)
			got.Nth(n%8, n%5)
			got.Last(mach.Spot{Slot: n % 3, Place: -1}, n)
		}
		for _, r := range other.Rows {
			scribble(mach.Spot{Call: -77}, r.Reads)
			scribble(mach.Spot{Call: -77}, r.Writes)
		}
		scribble(trace.Row{Stmt: -77, Depth: int(api.ErrNone)}, other.Rows)
		if !reflect.DeepEqual(got, want) {
			t.Errorf("P7: a trace changed, of\n%s", text)
		}
	}
}
