package graph_test

import (
	"cmp"
	"runtime"
	"slices"
	"strings"
	"testing"
	"unsafe"

	"rewind/api"
	"rewind/code"
	"rewind/flow"
	"rewind/graph"
	"rewind/mach"
	"rewind/world"
)

// withSpareRoom: a list with things behind it.
func withSpareRoom[T any](l []T, spare T) []T {
	return append(slices.Clone(l), spare, spare)[:len(l)]
}

func allOf[T any](l []T) []T { return slices.Clone(l[:cap(l)]) }

// scribble changes a list, spare room too.
func scribble[T any](x T, l []T) {
	for i := range l[:cap(l)] {
		l[:cap(l)][i] = x
	}
}

// memory: where a list stands, spare room included.
type memory struct{ from, to uintptr }

func memoryOf[T any](l []T) memory {
	var one T
	from := uintptr(unsafe.Pointer(unsafe.SliceData(l)))
	return memory{from, from + uintptr(cap(l))*unsafe.Sizeof(one)}
}

// many: programs whose records read much, also behind others.
var many = []string{
	twelve,
	"func main() { var x = 1; print f(x, x) + f(2, x) + x; }\nfunc f(a, b) int { return b - a; }",
	"func main() { print f(5); }\nfunc f(n) int { if n == 0 { return n; } n = n + f(n - 1) + f(0) + f(0); return n; }",
	"func main() { var a[3]; var i = 0; while i < 3 { a[i] = i * i + a[2 - i] + g(i, i); i = i + 1; } }\nfunc g(x, y) int { while x > 0 { x = x - 1; } }",
}

func TestAnswersAreNewMemory(t *testing.T) {
	for _, text := range many {
		for _, pace := range []int{1, 2, 5, 1000} {
			g := opened(t, text, fits, pace, 1000)
			want := toldAll(t, g)
			for record, x := range want {
				l, _ := g.Reads(record)
				scribble(graph.Read{Spot: mach.Spot{Call: 77, Slot: 77, Place: 77}, Writer: 77}, l)
				if got := told(t, g, record); got != x {
					t.Errorf("P7: what was done to an answer changed the graph: with the pace %d it says %s, want %s", pace, got, x)
				}
			}
			if got := toldAll(t, g); !slices.Equal(got, want) {
				t.Errorf("P7: what was done to answers changed the graph: with the pace %d it says\n%s\nwant\n%s", pace, strings.Join(got, "\n"), strings.Join(want, "\n"))
			}
		}
	}
}

func TestNoTwoListsShareMemory(t *testing.T) {
	var l []memory
	var all [][]graph.Read
	for _, text := range many {
		for _, pace := range []int{1, 2, 5, 1000} {
			g := opened(t, text, fits, pace, 3)
			for range 3 {
				for record := range g.Len() {
					reads, _ := g.Reads(record)
					l, all = append(l, memoryOf(reads)), append(all, reads)
				}
			}
		}
	}
	l = slices.DeleteFunc(l, func(x memory) bool { return x.from == x.to })
	slices.SortFunc(l, func(a, b memory) int { return cmp.Compare(a.from, b.from) })
	for i := 1; i < len(l); i++ {
		if l[i].from < l[i-1].to {
			t.Fatalf("P7: two of %d lists share memory: %v, %v", len(l), l[i-1], l[i])
		}
	}
	if len(l) < 500 {
		t.Errorf("only %d lists", len(l))
	}
	runtime.KeepAlive(all)
}

func TestWhatIsHandedInStays(t *testing.T) {
	for _, text := range append(slices.Clone(many), pool...) {
		c, f := built(t, text)
		c.Procs, c.List = withSpareRoom(c.Procs, code.Proc{Name: "spare"}), withSpareRoom(c.List, code.Instr{Op: 99})
		f.First, f.Next = withSpareRoom(f.First, -7), withSpareRoom(f.Next, []int{-7})
		var ways [][]int
		for at := range f.Next {
			f.Next[at] = withSpareRoom(f.Next[at], -7)
			ways = append(ways, allOf(f.Next[at]))
		}
		inputs := withSpareRoom([]int{3, 5, 1, 4, 2}, -7)
		procs, list, first, row := allOf(c.Procs), allOf(c.List), allOf(f.First), allOf(inputs)
		g, _ := graph.New(c, world.World{Steps: 100, Inputs: inputs}, f, 3, 2)
		want := toldAll(t, g)
		if !slices.Equal(procs, allOf(c.Procs)) || !slices.Equal(list, allOf(c.List)) || !slices.Equal(first, allOf(f.First)) || !slices.Equal(row, allOf(inputs)) {
			t.Errorf("P7: what was handed in, or its spare room, was changed, of\n%s", text)
		}
		for at, x := range ways {
			if !slices.Equal(x, allOf(f.Next[at])) {
				t.Errorf("P7: the ways on of %d, or their spare room, were changed to %d, want %d, of\n%s", at, allOf(f.Next[at]), x, text)
			}
		}
		scribble(-77, inputs)
		if got := toldAll(t, g); !slices.Equal(got, want) {
			t.Errorf("P7: the inputs, which were changed behind New, were kept: it says\n%s\nwant\n%s", strings.Join(got, "\n"), strings.Join(want, "\n"))
		}
	}
}

// The graph's player is one to go through the program with: wherever it is, the graph says the same; and it stays there.
func TestThePlayerStays(t *testing.T) {
	g := opened(t, twelve, fits, 5, 1)
	if g.At() != 0 || g.Pace() != 5 || g.Cost() != 1 {
		t.Errorf("a new graph's player is at %d, has the pace %d, and costs %d, want 0, 5, 1", g.At(), g.Pace(), g.Cost())
	}
	for _, at := range []int{0, 7, 12, 3, 11} {
		if e := g.To(at); e != api.OK {
			t.Errorf("P15.1: To(%d): %d", at, e)
		}
		here := g.Here().Steps()
		for record := range g.Len() {
			if got := told(t, g, record); got != toldOfTwelve[record] || g.At() != at || g.Here().Steps() != here {
				t.Errorf("P16.1: with its player at %d it says %s, want %s, and the player is at %d then", at, got, toldOfTwelve[record], g.At())
			}
		}
	}
	if n := g.End(); n != 12 || g.Len() != 12 || told(t, g, 7) != toldOfTwelve[7] || g.At() != 12 {
		t.Errorf("P15.1: End: %d, of %d records; the player is at %d then", n, g.Len(), g.At())
	}
}

// Two graphs of the same code don't change one another.
func TestGraphsAreByThemselves(t *testing.T) {
	c, f := built(t, twelve)
	a, _ := graph.New(c, fits, f, 2, 1)
	b, _ := graph.New(c, world.World{Steps: 50, Inputs: []int{1}}, f, 2, 1)
	for record := range b.Len() {
		told(t, b, record)
		if got := told(t, a, record); got != toldOfTwelve[record] {
			t.Errorf("P7: beside another graph it says %s, want %s", got, toldOfTwelve[record])
		}
	}
}

// Nothing is promised of a graph that New didn't make, nor of one of a flow that isn't the code's, or of code that no program has, but that no call panics.
func TestWhatNothingIsPromisedOf(t *testing.T) {
	graphs := []*graph.Graph{{}}
	c, f := built(t, twelve)
	one := [][]int{{0, 0}, {0, 0}, {0, 0}, {-1, -1}, {0, 1, 2}, {}, {1, 99}, {-5, 3}, {4, 4}}
	for _, other := range []flow.Graph{{}, {First: []int{0}, Next: one}, {Next: make([][]int, 12)}, {Next: one[:3]}} {
		g, _ := graph.New(c, fits, other, 2, 2)
		graphs = append(graphs, g)
	}
	for _, text := range []string{
		"proc f 0 1 4\nreturn 0\n",
		"proc f 0 1 4\ncall 1\nmark 0\nmark 900\nreturn 0\nproc g 0 2 4\nconst 1\nstore 0\nload 0\nstore 1\nmark 3\ncall 1\nreturn 0\n",
		"proc f 0 1 4\nconst 1\nstore 0\nmark 5\nload 0\nstore 0\njump 3\nreturn 0\n",
	} {
		c, line, e := code.Parse(text)
		if e != api.OK {
			t.Fatalf("Parse of %q: %d, %d", text, line, e)
		}
		if g, e := graph.New(c, fits, f, 3, 1); e == api.OK {
			graphs = append(graphs, g)
		} else {
			t.Logf("New of %q: %d", text, e)
		}
	}
	for _, g := range graphs {
		for _, record := range []int{-1, 0, 1, 5, g.Len() - 1, g.Len()} {
			g.Reads(record)
			g.By(record)
			g.To(record)
		}
		g.End()
		g.Kept()
		g.Made()
		g.Pace()
		g.Here()
	}
}
