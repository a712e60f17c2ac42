package flow_test

import (
	"cmp"
	"reflect"
	"runtime"
	"slices"
	"testing"
	"unsafe"

	"rewind/api"
	"rewind/check"
	"rewind/flow"
)

func checked(t *testing.T, p api.Tree) check.Info {
	t.Helper()
	info, at, e := check.Check(p)
	if e != api.OK {
		t.Fatalf("Check: %d, %d", at, e)
	}
	return info
}

// memory: where a list stands, spare room included.
type memory struct{ from, to uintptr }

func memoryOf[T any](l []T) memory {
	from := uintptr(unsafe.Pointer(unsafe.SliceData(l)))
	return memory{from, from + uintptr(cap(l))*unsafe.Sizeof(*new(T))}
}

func memoryOfLists(l [][]int) []memory {
	out := []memory{memoryOf(l)}
	for _, x := range l {
		out = append(out, memoryOf(x))
	}
	return out
}

func memoryOfGraph(g flow.Graph) []memory { return append(memoryOfLists(g.Next), memoryOf(g.First)) }

func memoryOfTree(p api.Tree) []memory {
	out := []memory{memoryOf(p.Exprs), memoryOf(p.Stmts), memoryOf(p.Funcs)}
	for _, x := range p.Exprs {
		out = append(out, memoryOf(x.List))
	}
	for _, s := range p.Stmts {
		out = append(out, memoryOf(s.Then), memoryOf(s.Else))
	}
	for _, f := range p.Funcs {
		out = append(out, memoryOf(f.Params), memoryOf(f.Body))
	}
	return out
}

func TestNoTwoListsShareMemory(t *testing.T) {
	p := parsed(t, ways)
	g, h := flow.Of(p), flow.Of(p)
	l := slices.Concat(memoryOfTree(p), memoryOfGraph(g), memoryOfGraph(h))
	var kept [][]int
	for at := range g.Next {
		kept = append(kept, g.Reach(at), g.Reach(at))
	}
	l = append(l, memoryOfLists(kept)...)
	back, again := g.Back(), g.Back()
	l = slices.Concat(l, memoryOfLists(back), memoryOfLists(again))
	l = slices.DeleteFunc(l, func(m memory) bool { return m.from == m.to })
	slices.SortFunc(l, func(a, b memory) int { return cmp.Compare(a.from, b.from) })
	for i := 1; i < len(l); i++ {
		if l[i].from < l[i-1].to {
			t.Errorf("P7: two lists share memory: %v, %v", l[i-1], l[i])
		}
	}
	for _, x := range []any{p, g, h, kept, back, again} {
		runtime.KeepAlive(x)
	}
}

func scribble(lists ...[]int) {
	for _, l := range lists {
		for i := range l[:cap(l)] {
			l[:cap(l)][i] = -7
		}
	}
}

func TestAnswersAreApart(t *testing.T) {
	p := parsed(t, ways)
	g, want := flow.Of(p), full(flow.Of(p))
	for at := range g.Next {
		scribble(g.Reach(at))
	}
	scribble(g.Back()...)
	if !reflect.DeepEqual(full(g), want) {
		t.Error("P7: a graph was changed by what was done to what it answered")
	}
	scribble(append(slices.Clone(g.Next), g.First)...)
	if !reflect.DeepEqual(full(flow.Of(p)), want) || !reflect.DeepEqual(p, parsed(t, ways)) {
		t.Error("P7: a program, or its graph, was changed by what was done to an earlier answer")
	}
}

// withRoom: a list that has spare room, of which the room is told, too.
func withRoom(l []int) (list, whole []int) {
	whole = append(slices.Clone(l), 70, 71, 72, 73, 74, 75, 76, 77, 78, 79)
	return whole[:len(l)], whole
}

func TestWhatIsHandedInStays(t *testing.T) {
	p := parsed(t, ways)
	g := flow.Of(p)
	var wholes [][]int
	add := func(l []int) []int {
		list, whole := withRoom(l)
		wholes = append(wholes, whole)
		return list
	}
	for at := range p.Stmts {
		p.Stmts[at].Then, p.Stmts[at].Else = add(p.Stmts[at].Then), add(p.Stmts[at].Else)
	}
	for n := range p.Funcs {
		p.Funcs[n].Body = add(p.Funcs[n].Body)
	}
	h := flow.Graph{First: add(g.First)}
	for _, next := range g.Next {
		h.Next = append(h.Next, add(next))
	}
	var was [][]int
	for _, l := range wholes {
		was = append(was, slices.Clone(l))
	}
	if !reflect.DeepEqual(full(flow.Of(p)), full(g)) {
		t.Error("P7: the program's graph hangs on spare room")
	}
	h.Back()
	for from := -1; from < len(h.Next); from++ {
		h.Reach(from)
		for to := -1; to < len(h.Next); to++ {
			h.Way(from, to)
		}
	}
	if !reflect.DeepEqual(wholes, was) {
		t.Error("P7: what was handed in, or its spare room, was changed")
	}
}
