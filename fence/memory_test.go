package fence_test

import (
	"cmp"
	"reflect"
	"runtime"
	"slices"
	"testing"
	"unsafe"

	"rewind/fence"
	"rewind/flow"
)

// memory: where a list stands, spare room included.
type memory struct{ from, to uintptr }

func memoryOf[T any](l []T) memory {
	from := uintptr(unsafe.Pointer(unsafe.SliceData(l)))
	return memory{from, from + uintptr(cap(l))*unsafe.Sizeof(*new(T))}
}

func memoryOfGraph(g flow.Graph) []memory {
	out := []memory{memoryOf(g.First), memoryOf(g.Next)}
	for _, l := range g.Next {
		out = append(out, memoryOf(l))
	}
	return out
}

func TestNoTwoListsShareMemory(t *testing.T) {
	g := graphOf(t, ways)
	l := memoryOfGraph(g)
	kept := [][]int{fence.Next(g), fence.Next(g)}
	for at := range g.Next {
		kept = append(kept, fence.All(g, at), fence.All(g, at))
	}
	for _, x := range kept {
		l = append(l, memoryOf(x))
	}
	slices.SortFunc(l, func(a, b memory) int { return cmp.Compare(a.from, b.from) })
	for i := 1; i < len(l); i++ {
		if l[i].from < l[i-1].to {
			t.Errorf("P7: two lists share memory: %v, %v", l[i-1], l[i])
		}
	}
	runtime.KeepAlive(g)
	runtime.KeepAlive(kept)
}

func TestAnswersAreApart(t *testing.T) {
	g, next := graphOf(t, ways), fence.Next(graphOf(t, ways))
	for _, l := range [][]int{fence.Next(g), fence.All(g, inPrint), fence.All(g, fWhile)} {
		for i := range l[:cap(l)] {
			l[:cap(l)][i] = -7
		}
	}
	if !reflect.DeepEqual(g, graphOf(t, ways)) || !reflect.DeepEqual(fence.Next(g), next) || !reflect.DeepEqual(fence.All(g, inPrint), fences[inPrint]) {
		t.Error("P7: a graph, or its fences, were changed by what was done to an earlier answer")
	}
}

func TestWhatIsHandedInStays(t *testing.T) {
	g := graphOf(t, ways)
	var wholes [][]int
	// with: the list, with spare room, of which the room is looked at, too.
	with := func(l []int) []int {
		whole := append(slices.Clone(l), exit, exit, 0, 1, 2, 3, 4, 5, 6, 7)
		wholes = append(wholes, whole)
		return whole[:len(l)]
	}
	h := flow.Graph{First: with(g.First)}
	for _, l := range g.Next {
		h.Next = append(h.Next, with(l))
	}
	var was [][]int
	for _, l := range wholes {
		was = append(was, slices.Clone(l))
	}
	if !reflect.DeepEqual(fence.Next(h), fence.Next(g)) {
		t.Error("P7: the next fences hang on spare room")
	}
	for a := -1; a < len(g.Next); a++ {
		if !reflect.DeepEqual(fence.All(h, a), fence.All(g, a)) {
			t.Error("P7: All hangs on spare room")
		}
		for b := -1; b < len(g.Next); b++ {
			fence.Fences(h, a, b)
			fence.Meet(h, a, b)
		}
	}
	if !reflect.DeepEqual(wholes, was) {
		t.Error("P7: what was handed in, or its spare room, was changed")
	}
}
