package lean_test

import (
	"slices"

	"rewind/api"
	"rewind/flow"
	"rewind/lean"
)

// The words once more, as they stand.

// fencesByWords: of each statement which statements fence it: a fences at, if no way leads from at to the exit when a is taken out.
func fencesByWords(g flow.Graph) [][]bool {
	n := len(g.Next)
	out := make([][]bool, n)
	for at := range out {
		out[at] = make([]bool, n)
	}
	for a := range n {
		for at, free := range withoutIt(g, a) {
			out[at][a] = !free
		}
	}
	return out
}

// withoutIt: from which statements the exit is got to without a.
func withoutIt(g flow.Graph, a int) []bool {
	free := make([]bool, len(g.Next))
	for more := true; more; {
		more = false
		for at, next := range g.Next {
			if at == a || free[at] {
				continue
			}
			for _, to := range next {
				if to == exit || free[to] {
					free[at], more = true, true
				}
			}
		}
	}
	return free
}

// leansByWords: of each statement its leans; choices tells which statements are ifs and whiles.
func leansByWords(g flow.Graph, choices []bool) [][]lean.Lean {
	fences := fencesByWords(g)
	out := make([][]lean.Lean, len(g.Next))
	for x := range out {
		for at, ways := range g.Next {
			for way, to := range ways {
				if choices[at] && to != exit && fences[to][x] && (x == at || !fences[at][x]) {
					out[x] = append(out[x], lean.Lean{At: at, Way: way})
				}
			}
		}
	}
	return out
}

// choicesOf: which statements of a program are ifs and whiles.
func choicesOf(p api.Tree) []bool {
	out := make([]bool, len(p.Stmts))
	for at, s := range p.Stmts {
		out[at] = s.Kind == api.SIf || s.Kind == api.SWhile
	}
	return out
}

// underByWords: the statements among whose leans one is.
func underByWords(leans [][]lean.Lean, x lean.Lean) []int {
	var out []int
	for at, l := range leans {
		if slices.Contains(l, x) {
			out = append(out, at)
		}
	}
	return out
}

// missing: a statement that some lean on and that isn't among them; none is -1.
func missing(leans [][]lean.Lean, l []int) int {
	for _, at := range l {
		for _, x := range leans[at] {
			if !slices.Contains(l, x.At) {
				return x.At
			}
		}
	}
	return -1
}

// fallsByFlow: of each statement the way on that it would have as a print.
func fallsByFlow(p api.Tree) []int {
	out := make([]int, len(p.Stmts))
	for at, s := range p.Stmts {
		p.Stmts[at] = api.Stmt{Kind: api.SPrint}
		out[at] = flow.Of(p).Next[at][0]
		p.Stmts[at] = s
	}
	return out
}

// fallsByWords: of each statement, from it outwards, what comes behind it.
func fallsByWords(p api.Tree) []int {
	var out []int
	for at := range p.Stmts {
		out = append(out, behind(p, at))
	}
	return out
}

func behind(p api.Tree, at int) int {
	for _, f := range p.Funcs {
		if n := slices.Index(f.Body, at); n >= 0 {
			return nextOr(f.Body, n, func() int { return exit })
		}
	}
	for outer, s := range p.Stmts {
		for _, l := range [][]int{s.Then, s.Else} {
			if n := slices.Index(l, at); n >= 0 && s.Kind == api.SWhile {
				return nextOr(l, n, func() int { return outer })
			} else if n >= 0 {
				return nextOr(l, n, func() int { return behind(p, outer) })
			}
		}
	}
	panic("a statement that stands nowhere")
}

func nextOr(l []int, n int, other func() int) int {
	if n+1 < len(l) {
		return l[n+1]
	}
	return other()
}
