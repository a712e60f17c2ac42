package lean_test

import (
	"math/rand"
	"reflect"
	"slices"
	"testing"

	"rewind/api"
	"rewind/flow"
	"rewind/lean"
)

// askAll asks of a graph all that may be asked: each call must end, and not panic.
func askAll(t *testing.T, g flow.Graph) {
	t.Helper()
	if got := lean.Of(g); len(got) != len(g.Next) {
		t.Errorf("P9.1: the leans of %d statements, want %d", len(got), len(g.Next))
	}
	places := []int{-1 << 63, -3, -2, -1, len(g.Next), len(g.Next) + 1, 1<<63 - 1}
	for at := range min(len(g.Next), 12) {
		places = append(places, at)
	}
	for _, at := range places {
		for _, way := range []int{-1 << 63, -1, 0, 1, 2, 1<<63 - 1} {
			lean.Under(g, at, way)
		}
		lean.Closed(g, []int{at})
	}
	lean.Closed(g, places)
}

func TestEmpty(t *testing.T) {
	none := parsed(t, inMain(""))
	for _, g := range []flow.Graph{{}, {First: []int{}, Next: [][]int{}}, flow.Of(none)} {
		if len(lean.Of(g)) != 0 || len(lean.Under(g, 0, 0)) != 0 || len(lean.Under(g, exit, 0)) != 0 || !lean.Closed(g, nil) || !lean.Closed(g, []int{}) {
			t.Error("P9.1: leans of no statements")
		}
		askAll(t, g)
	}
	for _, p := range []api.Tree{{}, {Stmts: []api.Stmt{}, Funcs: []api.Func{}}, none} {
		if l := lean.Falls(p); len(l) != 0 {
			t.Errorf("P9.1: no statements fall to %d", l)
		}
	}
}

// What is no statement leans on nothing.
func TestClosedOfWhatIsNone(t *testing.T) {
	g := flow.Of(parsed(t, ways))
	for _, at := range []int{-1 << 63, -2, -1, fPrint + 1, 1<<63 - 1} {
		if !lean.Closed(g, []int{at}) || !lean.Closed(g, []int{at, inWhile, at, inIf}) || lean.Closed(g, []int{at, inIf, at}) {
			t.Errorf("P9.1: Closed with %d, which is no statement", at)
		}
	}
}

func TestGraphsThatAreNone(t *testing.T) {
	for _, next := range [][][]int{
		{nil},
		{{}, {0}},
		{{5}, {-7}, {-2, 3}},
		{{0, 0, 0, 0}},
		{{0}},
		{{0, 0}},
		{{1}, {2}, {0}},
		{{1, 1}, {0, 2}, {2, 0}, {0, exit}},
		{{1, 0}, {0, 1}},
		{{-1 << 63}, {1<<63 - 1}},
		{{-1 << 63, 1<<63 - 1}, {-2, 2}},
		{{0, exit}, {1}, {0, 1}, {exit, exit, 0}},
	} {
		askAll(t, flow.Graph{Next: next})
	}
}

// The words hold of any graph whose statements have some way to the exit, and two ways on where they are ifs or whiles.
func TestAnyGraph(t *testing.T) {
	r := rand.New(rand.NewSource(99))
	whole := 0
	for range 4000 {
		n := 1 + r.Intn(12)
		g, choices := flow.Graph{Next: make([][]int, n)}, make([]bool, n)
		for at := range g.Next {
			choices[at] = r.Intn(2) == 0
			g.Next[at] = append(g.Next[at], r.Intn(n+1)-1)
			if choices[at] {
				g.Next[at] = append(g.Next[at], r.Intn(n+1)-1)
			}
		}
		askAll(t, g)
		if slices.Contains(withoutIt(g, -2), false) {
			continue
		}
		whole++
		for at, want := range leansByWords(g, choices) {
			if got := lean.Of(g)[at]; !slices.Equal(got, want) {
				t.Fatalf("P9.1: of %d %d leans on %v, want %v", g.Next, at, got, want)
			}
		}
	}
	if whole < 400 {
		t.Errorf("only %d graphs lead to the exit", whole)
	}
}

func TestALongGraph(t *testing.T) {
	const long = 200000
	g := flow.Graph{Next: make([][]int, long)}
	for at := range g.Next {
		g.Next[at] = []int{at + 1, max(at-1, 0)}
	}
	g.Next[long-1] = []int{exit}
	leans := lean.Of(g)
	for at := range long - 2 {
		if want := []lean.Lean{{At: at, Way: 1}, {At: at + 1, Way: 1}}; !slices.Equal(leans[at], want) {
			t.Fatalf("P9.1: %d leans on %v, want %v", at, leans[at], want)
		}
	}
	if len(leans[long-1]) > 0 || !slices.Equal(lean.Under(g, long-2, 1), []int{long - 3, long - 2}) {
		t.Error("P9.1: the last of many statements")
	}
	all := make([]int, long)
	for at := range all {
		all[at] = at
	}
	if !lean.Closed(g, all) || !lean.Closed(g, all[9:]) || lean.Closed(g, all[:long-2]) {
		t.Error("P9.1: Closed of many statements")
	}
}

func oneFunction(body []int, stmts ...api.Stmt) api.Tree {
	return api.Tree{Stmts: stmts, Funcs: []api.Func{{Name: "main", Type: api.Unit, Body: body}}}
}

func choice(then, other []int) api.Stmt { return api.Stmt{Kind: api.SIf, Then: then, Else: other} }

func loop(then ...int) api.Stmt { return api.Stmt{Kind: api.SWhile, Then: then} }

func TestTreesThatAreNone(t *testing.T) {
	for _, p := range []api.Tree{
		oneFunction([]int{0}),
		oneFunction([]int{-1, 7, 0, 1 << 62}, api.Stmt{}),
		oneFunction([]int{0, 0, 0}, api.Stmt{Kind: api.SPrint}),
		oneFunction([]int{0}, choice([]int{0}, []int{0, 0})),
		oneFunction([]int{0}, loop(0)),
		oneFunction([]int{0, -2}, loop(0, -2)),
		oneFunction([]int{0}, loop(1), loop(0, 1, 0)),
		oneFunction([]int{0}, choice([]int{-5}, []int{9})),
		oneFunction([]int{0, 1}, api.Stmt{Kind: api.SBreak}, api.Stmt{Kind: api.SContinue}),
		oneFunction(nil, api.Stmt{Kind: api.SPrint}, loop(0)),
		oneFunction([]int{0}, api.Stmt{Kind: -1}, api.Stmt{Kind: 99}),
		{Funcs: make([]api.Func, 3), Stmts: make([]api.Stmt, 2)},
	} {
		if l := lean.Falls(p); len(l) != len(p.Stmts) {
			t.Errorf("P7: of %d statements %d fall", len(p.Stmts), len(l))
		}
		askAll(t, flow.Of(p))
	}
	if l := lean.Falls(oneFunction(nil, loop(1), choice(nil, nil))); !reflect.DeepEqual(l, []int{exit, exit}) {
		t.Errorf("P7: statements that stand nowhere fall to %d", l)
	}
}

// A tree whose statements are there twice each would have more ways through it than can be gone.
func TestATreeThatMeetsItself(t *testing.T) {
	var stmts []api.Stmt
	for n := range 200 {
		stmts = append(stmts, choice([]int{n + 1}, []int{n + 1}))
	}
	p := oneFunction([]int{0}, append(stmts, api.Stmt{Kind: api.SPrint})...)
	if l := lean.Falls(p); len(l) != 201 || l[200] != exit {
		t.Errorf("P7: the statements of a tree that meets itself fall to %d", l)
	}
}

func TestADeepTree(t *testing.T) {
	const deep = 200000
	stmts := make([]api.Stmt, 0, deep+1)
	for n := range deep {
		stmts = append(stmts, loop(n+1))
	}
	falls := lean.Falls(oneFunction([]int{0}, append(stmts, api.Stmt{Kind: api.SPrint})...))
	for at, to := range falls {
		if to != at-1 {
			t.Fatalf("P7: %d of a deep tree falls to %d, want %d", at, to, at-1)
		}
	}
}
