package slice_test

import (
	"cmp"
	"reflect"
	"runtime"
	"slices"
	"strings"
	"testing"
	"unsafe"

	"rewind/api"
	"rewind/check"
	"rewind/flow"
	"rewind/graph"
	"rewind/slice"
	"rewind/trace"
)

// memory: where a list, or a text, stands, spare room included.
type memory struct{ from, to uintptr }

func memoryOf(l []int) memory {
	from := uintptr(unsafe.Pointer(unsafe.SliceData(l)))
	return memory{from, from + uintptr(cap(l))*unsafe.Sizeof(0)}
}

func memoryOfText(s string) memory {
	from := uintptr(unsafe.Pointer(unsafe.StringData(s)))
	return memory{from, from + uintptr(len(s))}
}

// listsOf: all lists of ints of what is handed in.
func listsOf(s slice.Source) [][]int {
	out := [][]int{s.Info.Type, s.Info.Slot, s.Info.Put, s.Info.Func, s.Flow.First}
	out = append(append(out, s.Info.Slots...), s.Flow.Next...)
	for _, x := range s.Tree.Exprs {
		out = append(out, x.List)
	}
	for _, x := range s.Tree.Stmts {
		out = append(out, x.Then, x.Else)
	}
	for _, x := range s.Tree.Funcs {
		out = append(out, x.Body)
	}
	return out
}

func wantApart(t *testing.T, l []memory) {
	t.Helper()
	l = slices.DeleteFunc(l, func(x memory) bool { return x.from == x.to })
	slices.SortFunc(l, func(a, b memory) int { return cmp.Compare(a.from, b.from) })
	for i := 1; i < len(l); i++ {
		if l[i].from < l[i-1].to {
			t.Fatalf("P7: two of %d lists share memory: %v, %v", len(l), l[i-1], l[i])
		}
	}
	if len(l) < 100 {
		t.Errorf("only %d lists", len(l))
	}
}

func TestAnswersAreNewMemory(t *testing.T) {
	for _, text := range pool {
		s := sourced(t, text, with(4, 1, 0, 2), 3, 2)
		l := []memory{memoryOfText(s.Text)}
		for _, x := range listsOf(s) {
			l = append(l, memoryOf(x))
		}
		var all [][]int
		var texts []string
		for range 3 {
			for record := range s.Trace.Rows {
				all = append(all, sliced(t, s, record))
			}
			for at := range s.Tree.Stmts {
				all = append(all, slice.Names(s.Tree, s.Info, at))
			}
			for _, x := range slices.Clone(all) {
				texts = append(texts, slice.Text(s, x))
			}
			texts = append(texts, slice.Text(s, allOf(s)))
		}
		for _, x := range all {
			l = append(l, memoryOf(x))
		}
		for _, x := range texts {
			l = append(l, memoryOfText(x))
		}
		wantApart(t, l)
		runtime.KeepAlive(all)
		runtime.KeepAlive(texts)
	}
}

// allOf: all statements.
func allOf(s slice.Source) []int {
	var out []int
	for at := range s.Tree.Stmts {
		out = append(out, at)
	}
	return out
}

// copied: what is handed in once more, but for the graph.
func copied(t *testing.T, s slice.Source) slice.Source {
	t.Helper()
	p, info := known(t, s.Text)
	out := slice.Source{Text: strings.Clone(s.Text), Tree: p, Info: info, Flow: flow.Of(p), Graph: s.Graph}
	out.Trace = s.Trace
	out.Trace.Rows = slices.Clone(s.Trace.Rows)
	return out
}

func TestWhatIsHandedInStays(t *testing.T) {
	for _, text := range pool {
		s := sourced(t, text, with(4, 1, 0, 2), 2, 1)
		was := copied(t, s)
		var spare [][]int
		for _, x := range listsOf(s) {
			spare = append(spare, slices.Clone(x[:cap(x)]))
		}
		l := append([]int{2, 0, 99, 2, -1}, 77, 77)[:5]
		if e := s.Graph.To(1); e != api.OK {
			t.Fatalf("P15.1: To(1): %d", e)
		}
		for record := range s.Trace.Rows {
			first := sliced(t, s, record)
			left := slice.Text(s, first)
			for n := range first[:cap(first)] {
				first[:cap(first)][n] = 77
			}
			if again := sliced(t, s, record); slice.Text(s, again) != left {
				t.Errorf("P7: asked again, with what was answered changed, Of(%d) is %d, of\n%s", record, again, text)
			}
		}
		slice.Text(s, l)
		for at := range s.Tree.Stmts {
			slice.Names(s.Tree, s.Info, at)
		}
		if !reflect.DeepEqual(s, was) || s.Graph.At() != 1 {
			t.Errorf("P7: what was handed in was changed, or the graph's player, which is at %d, of\n%s", s.Graph.At(), text)
		}
		for n, x := range listsOf(s) {
			if !slices.Equal(spare[n], x[:cap(x)]) {
				t.Errorf("P7: the spare room of what was handed in was changed, of\n%s", text)
			}
		}
		if !slices.Equal(l[:7], []int{2, 0, 99, 2, -1, 77, 77}) {
			t.Errorf("P7: the list that Text was given is %d now", l[:7])
		}
	}
}

// Nothing is promised of a source whose parts aren't of one text, nor of one that no chapter made, but that each call ends, and none panics.
func TestWhatNothingIsPromisedOf(t *testing.T) {
	s := sourced(t, pool[0], with(4, 1, 0, 2), 3, 2)
	other := sourced(t, pool[3], with(4, 1, 0, 2), 3, 2)
	short := sourced(t, "func main() { while true { print 1; } }", with(), 3, 2)
	rows := []trace.Row{{Stmt: -7}, {Stmt: 99}, {Stmt: 1}, {Stmt: 1 << 62}, {Stmt: -1 << 63}}
	sources := []slice.Source{{}, {Graph: &graph.Graph{}}, {Graph: s.Graph}, {Trace: s.Trace}, {Text: s.Text, Graph: s.Graph, Trace: s.Trace}}
	for _, x := range []slice.Source{s, short} {
		for _, y := range []slice.Source{other, s, short, {}} {
			for n := range 6 {
				mixed := x
				switch n {
				case 0:
					mixed.Text = y.Text
				case 1:
					mixed.Tree = y.Tree
				case 2:
					mixed.Info = y.Info
				case 3:
					mixed.Flow = y.Flow
				case 4:
					mixed.Graph = y.Graph
				case 5:
					mixed.Trace = y.Trace
				}
				sources = append(sources, mixed)
			}
		}
		x.Trace.Rows = rows
		sources = append(sources, x)
		x.Tree, x.Info, x.Flow = knots()
		sources = append(sources, x)
	}
	for _, x := range sources {
		for _, record := range []int{-1, 0, 1, 2, 3, 4, len(x.Trace.Rows) - 1, len(x.Trace.Rows)} {
			slice.Of(x, record)
		}
		for _, l := range [][]int{nil, {0}, {-1, 5, 99}, allOf(x)} {
			slice.Text(x, l)
		}
		for at := -2; at < len(x.Tree.Stmts)+2; at++ {
			slice.Names(x.Tree, x.Info, at)
		}
	}
}

// knots: a program, and what is known of it, that lead back to where they were, and to what isn't there.
func knots() (api.Tree, check.Info, flow.Graph) {
	p := api.Tree{
		Exprs: []api.Expr{{Kind: api.EPair, A: 1, B: 0}, {Kind: api.EUnary, A: 0}, {Kind: api.EIndex, A: 99}, {Kind: api.ECall, List: []int{3, 3, -5}}},
		Stmts: []api.Stmt{
			{Kind: api.SBreak}, {Kind: api.SPrint, A: 0}, {Kind: api.SPut, A: 3, B: 2, Span: api.Span{From: 5, To: 2}},
			{Kind: api.SWhile, A: 77, Then: []int{3, 0, 4, 0, 99}}, {Kind: api.SIf, A: -9, Then: []int{3, 1}, Else: []int{4}}, {Kind: api.SIf, Else: []int{55}}, {Kind: 99},
		},
		Funcs: []api.Func{{Body: []int{0, 1, 0, 2, 5}}, {Body: []int{4, 4, -3}}},
	}
	return p, check.Info{Slot: []int{-4}, Put: []int{9, 9}, Func: []int{7}}, flow.Graph{First: []int{3}, Next: [][]int{{1}, {0}, {2, 3}, {-7}, {50, 4}, {5}}}
}
