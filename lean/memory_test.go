package lean_test

import (
	"cmp"
	"reflect"
	"runtime"
	"slices"
	"testing"
	"unsafe"

	"rewind/flow"
	"rewind/lean"
)

// memory: where a list stands, spare room included.
type memory struct{ from, to uintptr }

func memoryOf[T any](l []T) memory {
	from := uintptr(unsafe.Pointer(unsafe.SliceData(l)))
	return memory{from, from + uintptr(cap(l))*unsafe.Sizeof(*new(T))}
}

func memoryOfLists[T any](l [][]T) []memory {
	out := []memory{memoryOf(l)}
	for _, x := range l {
		out = append(out, memoryOf(x))
	}
	return out
}

func TestNoTwoListsShareMemory(t *testing.T) {
	p := parsed(t, ways)
	g := flow.Of(p)
	l := append(memoryOfLists(g.Next), memoryOf(g.First))
	for _, s := range p.Stmts {
		l = append(l, memoryOf(s.Then), memoryOf(s.Else))
	}
	for _, f := range p.Funcs {
		l = append(l, memoryOf(f.Body))
	}
	first, second := lean.Of(g), lean.Of(g)
	kept := [][]int{lean.Falls(p), lean.Falls(p)}
	for at := range g.Next {
		for range 2 {
			kept = append(kept, lean.Under(g, at, 0), lean.Under(g, at, 1))
		}
	}
	l = slices.Concat(l, memoryOfLists(first), memoryOfLists(second), memoryOfLists(kept))
	l = slices.DeleteFunc(l, func(m memory) bool { return m.from == m.to })
	slices.SortFunc(l, func(a, b memory) int { return cmp.Compare(a.from, b.from) })
	for i := 1; i < len(l); i++ {
		if l[i].from < l[i-1].to {
			t.Errorf("P7: two lists share memory: %v, %v", l[i-1], l[i])
		}
	}
	for _, x := range []any{p, g, first, second, kept} {
		runtime.KeepAlive(x)
	}
}

func scribble[T any](x T, lists ...[]T) {
	for _, l := range lists {
		for i := range l[:cap(l)] {
			l[:cap(l)][i] = x
		}
	}
}

func TestAnswersAreApart(t *testing.T) {
	p := parsed(t, ways)
	g := flow.Of(p)
	leans, falls := lean.Of(g), lean.Falls(p)
	scribble(lean.Lean{At: -7, Way: -7}, lean.Of(g)...)
	scribble(nil, lean.Of(g))
	scribble(-7, lean.Falls(p), lean.Under(g, inIf, 1), lean.Under(g, fIf, 0))
	if !reflect.DeepEqual(p, parsed(t, ways)) || !reflect.DeepEqual(g, flow.Of(p)) {
		t.Error("P7: a program, or its flow, was changed by what was done to an answer")
	}
	if !reflect.DeepEqual(lean.Of(g), leans) || !reflect.DeepEqual(lean.Falls(p), falls) || !slices.Equal(lean.Under(g, inIf, 1), []int{inPrint, inWhile}) {
		t.Error("P7: an answer was changed by what was done to an earlier one")
	}
}

func TestWhatIsHandedInStays(t *testing.T) {
	p := parsed(t, ways)
	g := flow.Of(p)
	leans, falls := lean.Of(g), lean.Falls(p)
	var wholes [][]int
	// with: the list, with spare room, of which the room is looked at, too.
	with := func(l []int) []int {
		whole := append(slices.Clone(l), exit, exit, 0, 1, 2, 3, 4, 5, 6, 7)
		wholes = append(wholes, whole)
		return whole[:len(l)]
	}
	h := flow.Graph{First: with(g.First)}
	for _, l := range g.Next {
		h.Next = append(h.Next, with(l))
	}
	for at := range p.Stmts {
		p.Stmts[at].Then, p.Stmts[at].Else = with(p.Stmts[at].Then), with(p.Stmts[at].Else)
	}
	for n := range p.Funcs {
		p.Funcs[n].Body = with(p.Funcs[n].Body)
	}
	open, closed := with([]int{inPrint, inIf, inPrint}), with([]int{inWhile, inIf})
	was := make([][]int, len(wholes))
	for n, l := range wholes {
		was[n] = slices.Clone(l)
	}
	if !reflect.DeepEqual(lean.Of(h), leans) || !slices.Equal(lean.Falls(p), falls) || lean.Closed(h, open) || !lean.Closed(h, closed) || !slices.Equal(lean.Under(h, inIf, 1), []int{inPrint, inWhile}) {
		t.Error("P7: an answer hangs on spare room")
	}
	if !reflect.DeepEqual(wholes, was) {
		t.Error("P7: what was handed in, or its spare room, was changed")
	}
}
