package flow_test

import (
	"math/rand"
	"slices"

	"rewind/api"
	"rewind/flow"
)

// oracle says the chapter's words once more, from a statement outwards: who looks for what comes behind it asks the list in which it stands, and then what that stands in.
type oracle struct {
	api.Tree
	list  [][]int // of each statement the list in which it stands
	outer []int   // of each statement the one in whose Then or Else it stands; -1
}

func newOracle(p api.Tree) *oracle {
	o := &oracle{Tree: p, list: make([][]int, len(p.Stmts)), outer: make([]int, len(p.Stmts))}
	for _, f := range p.Funcs {
		o.stand(f.Body, -1)
	}
	for at, s := range p.Stmts {
		o.stand(s.Then, at)
		o.stand(s.Else, at)
	}
	return o
}

func (o *oracle) stand(list []int, outer int) {
	for _, at := range list {
		o.list[at], o.outer[at] = list, outer
	}
}

func (o *oracle) behind(at int) int {
	list := o.list[at]
	if n := slices.Index(list, at); n < len(list)-1 {
		return list[n+1]
	}
	outer := o.outer[at]
	if outer < 0 || o.Stmts[outer].Kind == api.SWhile {
		return outer
	}
	return o.behind(outer)
}

func (o *oracle) loop(at int) int {
	for at = o.outer[at]; o.Stmts[at].Kind != api.SWhile; at = o.outer[at] {
	}
	return at
}

func (o *oracle) ways(at int) []int {
	s, behind := o.Stmts[at], o.behind(at)
	switch s.Kind {
	case api.SIf:
		return []int{head(s.Then, behind), head(s.Else, behind)}
	case api.SWhile:
		return []int{head(s.Then, at), behind}
	case api.SBreak:
		return []int{o.behind(o.loop(at))}
	case api.SContinue:
		return []int{o.loop(at)}
	case api.SReturn:
		return []int{-1}
	}
	return []int{behind}
}

func head(list []int, other int) int {
	if len(list) > 0 {
		return list[0]
	}
	return other
}

func (o *oracle) graph() flow.Graph {
	var g flow.Graph
	for _, f := range o.Funcs {
		g.First = append(g.First, head(f.Body, -1))
	}
	for at := range o.Stmts {
		g.Next = append(g.Next, o.ways(at))
	}
	return g
}

// runner does what a program's statements say, by chance where they have a choice, and writes down where it comes by.
type runner struct {
	api.Tree
	r     *rand.Rand
	left  int // how many choices it has; then it leaves each while
	steps []step
}

// step: a statement, and which of its ways is gone.
type step struct{ at, way int }

// How a list of statements ends.
const (
	through = iota
	broken
	continued
	returned
)

func (r *runner) choice() int {
	r.left--
	if r.left < 0 {
		return 1
	}
	return r.r.Intn(2)
}

func (r *runner) come(at, way int) { r.steps = append(r.steps, step{at, way}) }

func (r *runner) run(list []int) int {
	for _, at := range list {
		if how := r.one(at, r.Stmts[at]); how != through {
			return how
		}
	}
	return through
}

func (r *runner) one(at int, s api.Stmt) int {
	switch s.Kind {
	case api.SIf:
		way := r.choice()
		r.come(at, way)
		return r.run([][]int{s.Then, s.Else}[way])
	case api.SWhile:
		return r.loop(at, s)
	}
	r.come(at, 0)
	switch s.Kind {
	case api.SBreak:
		return broken
	case api.SContinue:
		return continued
	case api.SReturn:
		return returned
	}
	return through
}

func (r *runner) loop(at int, s api.Stmt) int {
	for {
		way := r.choice()
		r.come(at, way)
		if way == 1 {
			return through
		}
		switch r.run(s.Then) {
		case broken:
			return through
		case returned:
			return returned
		}
	}
}

// closed: from each statement to each other one, and to the exit, which stands behind all of them: whether some way of one step or more leads there.
func closed(g flow.Graph) [][]bool {
	n := len(g.Next)
	way := make([][]bool, n+1)
	for at := range way {
		way[at] = make([]bool, n+1)
	}
	for at, next := range g.Next {
		for _, to := range next {
			way[at][(to+n+1)%(n+1)] = true
		}
	}
	for mid := range way {
		for from := range way {
			for to := range way {
				way[from][to] = way[from][to] || way[from][mid] && way[mid][to]
			}
		}
	}
	return way
}
