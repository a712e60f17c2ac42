package flow_test

import (
	"testing"

	"rewind/api"
	"rewind/flow"
)

// askAll asks a graph all that it may be asked: each call must end, and not panic.
func askAll(g flow.Graph) {
	g.Back()
	for from := -3; from < min(len(g.Next), 50)+3; from++ {
		g.Reach(from)
		for to := -3; to < min(len(g.Next), 50)+3; to++ {
			g.Way(from, to)
		}
	}
}

func TestEmpty(t *testing.T) {
	for _, g := range []flow.Graph{{}, flow.Of(api.Tree{}), flow.Of(api.Tree{Funcs: []api.Func{}, Stmts: []api.Stmt{}})} {
		if len(g.First) != 0 || len(g.Next) != 0 || len(g.Back()) != 0 || len(g.Reach(0)) != 0 || len(g.Reach(-1)) != 0 || g.Way(0, 0) || g.Way(-1, -1) || g.Way(0, -1) {
			t.Errorf("P7.1: a graph of no statements: %d", g)
		}
		askAll(g)
	}
}

func TestGraphsThatAreNone(t *testing.T) {
	for _, next := range [][][]int{
		{nil},
		{{}, {0}},
		{{5}, {-7}, {-2, 3}},
		{{0, 0, 0, 0}},
		{{1}, {2}, {0}},
		{{-1 << 63}, {1<<63 - 1}},
	} {
		askAll(flow.Graph{Next: next})
	}
}

func oneFunction(body []int, stmts ...api.Stmt) api.Tree {
	return api.Tree{Stmts: stmts, Funcs: []api.Func{{Name: "main", Type: api.Unit, Body: body}}}
}

func choice(then, other []int) api.Stmt { return api.Stmt{Kind: api.SIf, Then: then, Else: other} }

func loop(then ...int) api.Stmt { return api.Stmt{Kind: api.SWhile, Then: then} }

func TestTreesThatAreNone(t *testing.T) {
	for _, p := range []api.Tree{
		oneFunction([]int{0}),
		oneFunction([]int{-1, 7, 0, 1 << 62}, api.Stmt{}),
		oneFunction([]int{0, 0, 0}, api.Stmt{Kind: api.SPrint}),
		oneFunction([]int{0}, choice([]int{0}, []int{0, 0})),
		oneFunction([]int{0}, loop(0)),
		oneFunction([]int{0}, loop(1), loop(0, 1, 0)),
		oneFunction([]int{0}, choice([]int{-5}, []int{9})),
		oneFunction([]int{0, 1}, api.Stmt{Kind: api.SBreak}, api.Stmt{Kind: api.SContinue}),
		oneFunction(nil, api.Stmt{Kind: api.SPrint}, loop(0)),
		oneFunction([]int{0}, api.Stmt{Kind: -1}, api.Stmt{Kind: 99}),
		{Funcs: make([]api.Func, 3), Stmts: make([]api.Stmt, 2)},
	} {
		g := flow.Of(p)
		if len(g.First) != len(p.Funcs) || len(g.Next) != len(p.Stmts) {
			t.Errorf("P7: a graph of %d functions and %d statements: %d", len(p.Funcs), len(p.Stmts), g)
		}
		askAll(g)
	}
}

// A tree whose statements are there twice each would have more ways through it than can be gone.
func TestATreeThatMeetsItself(t *testing.T) {
	var stmts []api.Stmt
	for n := range 200 {
		stmts = append(stmts, choice([]int{n + 1}, []int{n + 1}))
	}
	askAll(flow.Of(oneFunction([]int{0}, append(stmts, api.Stmt{Kind: api.SPrint})...)))
}

func TestADeepTree(t *testing.T) {
	const deep = 200000
	stmts := make([]api.Stmt, 0, deep+1)
	for n := range deep {
		stmts = append(stmts, choice([]int{n + 1}, nil))
	}
	g := flow.Of(oneFunction([]int{0}, append(stmts, api.Stmt{Kind: api.SPrint})...))
	if len(g.Reach(0)) != deep+1 || !g.Way(0, deep) || g.Way(deep, 0) || !g.Way(0, -1) || len(g.Back()[deep]) != 1 {
		t.Error("P7: the graph of a deep tree")
	}
}
