package fence_test

import (
	"math/rand"
	"slices"
	"testing"

	"rewind/fence"
	"rewind/flow"
)

// askAll asks of a graph all that may be asked: each call must end, and not panic.
func askAll(t *testing.T, g flow.Graph) {
	t.Helper()
	if got := fence.Next(g); len(got) != len(g.Next) {
		t.Errorf("P8.1: %d next fences of %d statements", len(got), len(g.Next))
	}
	places := []int{-1 << 63, -3, -2, len(g.Next), len(g.Next) + 1, 1<<63 - 1}
	for at := range min(len(g.Next), 20) {
		places = append(places, at)
	}
	for _, a := range append(places, exit) {
		l := fence.All(g, a)
		if a >= 0 && a < len(g.Next) && (l[0] != a || l[len(l)-1] != exit) {
			t.Errorf("P8.1: All of %d: %d", a, l)
		}
		for _, b := range append(places, exit) {
			fence.Fences(g, a, b)
			fence.Meet(g, a, b)
		}
	}
}

func TestWhatIsNoStatement(t *testing.T) {
	g := graphOf(t, ways)
	for _, at := range []int{-1 << 63, -2, len(g.Next), 1<<63 - 1} {
		if l := fence.All(g, at); len(l) > 0 {
			t.Errorf("P8.1: All of %d, which is no statement: %d", at, l)
		}
		for a := exit; a < len(g.Next); a++ {
			if fence.Fences(g, at, a) || fence.Fences(g, a, at) || fence.Fences(g, at, at) {
				t.Errorf("P8.1: %d, which is no statement, fences %d, or the other way round", at, a)
			}
			if fence.Meet(g, a, at) != exit || fence.Meet(g, at, a) != exit || fence.Meet(g, at, at) != exit {
				t.Errorf("P8.1: %d, which is no statement, meets %d", at, a)
			}
		}
	}
}

func TestEmpty(t *testing.T) {
	for _, g := range []flow.Graph{{}, {First: []int{}, Next: [][]int{}}, graphOf(t, inMain(""))} {
		if len(fence.Next(g)) != 0 || len(fence.All(g, 0)) != 0 || fence.Fences(g, 0, 0) || fence.Fences(g, exit, 0) || fence.Meet(g, 0, 0) != exit {
			t.Error("P8.1: fences of no statements")
		}
		askAll(t, g)
	}
}

func TestGraphsThatAreNone(t *testing.T) {
	for _, next := range [][][]int{
		{nil},
		{{}, {0}},
		{{5}, {-7}, {-2, 3}},
		{{0, 0, 0, 0}},
		{{1}, {2}, {0}},
		{{1, 1}, {0, 2}, {2, 0}, {0, exit}},
		{{-1 << 63}, {1<<63 - 1}},
		{{0, exit}, {1}, {0, 1}, {exit, exit, 0}},
	} {
		askAll(t, flow.Graph{Next: next})
	}
}

// The words hold of any graph whose statements have some way to the exit, of what text it may be or not.
func TestAnyGraph(t *testing.T) {
	r := rand.New(rand.NewSource(77))
	whole := 0
	for range 4000 {
		n := 1 + r.Intn(12)
		g := flow.Graph{Next: make([][]int, n)}
		for at := range g.Next {
			for range 1 + r.Intn(3) {
				g.Next[at] = append(g.Next[at], r.Intn(n+1)-1)
			}
		}
		askAll(t, g)
		if slices.Contains(withoutIt(g, -2), false) {
			continue
		}
		whole++
		words, next := fencesByWords(g), fence.Next(g)
		for at := range next {
			if want := nextByWords(words, at); len(want) != 1 || next[at] != want[0] {
				t.Fatalf("P8.2: of %d the next fence of %d: %d, want %d", g.Next, at, next[at], want)
			}
		}
	}
	if whole < 400 {
		t.Errorf("only %d graphs lead to the exit", whole)
	}
}

func TestALongGraph(t *testing.T) {
	const long = 200000
	g := flow.Graph{Next: make([][]int, long)}
	for at := range g.Next {
		g.Next[at] = []int{at + 1, max(at-1, 0)}
	}
	g.Next[long-1] = []int{exit}
	next := fence.Next(g)
	for at := range next[:long-1] {
		if next[at] != at+1 {
			t.Fatalf("P8.1: the next fence of %d: %d", at, next[at])
		}
	}
	if l := fence.All(g, 0); len(l) != long+1 || next[long-1] != exit {
		t.Errorf("P8.1: All of the first of many statements has %d", len(l))
	}
	if !fence.Fences(g, long-1, 0) || fence.Meet(g, long-1, 0) != long-1 {
		t.Error("P8.1: Fences, Meet of the first and the last of many statements")
	}
}
