package flow

import "rewind/api"

// builder: a program, and what there is of its graph so far.
type builder struct {
	api.Tree
	Graph
	waiting []block // those whose statements have no ways on so far
}

// block: a list of statements, and what is around it.
type block struct {
	list []int
	around
}

// around: where one gets to from a place in a function.
type around struct {
	behind int // what comes behind
	loop   int // the innermost while
	leave  int // what comes behind that
}

func roomFor(t api.Tree) Graph {
	return Graph{First: make([]int, len(t.Funcs)), Next: make([][]int, len(t.Stmts))}
}

func (b *builder) program() {
	for n, f := range b.Funcs {
		b.First[n] = first(f.Body, exit)
		b.function(f)
	}
}

// function gives all statements of a function their ways on. The blocks in it wait in a list, as a tree may be deeper than calls can be.
func (b *builder) function(f api.Func) {
	b.waiting = []block{{f.Body, around{exit, exit, exit}}}
	for len(b.waiting) > 0 {
		last := len(b.waiting) - 1
		next := b.waiting[last]
		b.waiting = b.waiting[:last]
		b.block(next)
	}
}

func (b *builder) block(l block) {
	for n, at := range l.list {
		here := l.around
		here.behind = first(l.list[n+1:], l.behind)
		b.statement(at, here)
	}
}

// statement gives a statement its ways on once, so that a tree that leads back to where it was ends, too.
func (b *builder) statement(at int, here around) {
	if !b.has(at) || b.Next[at] != nil {
		return
	}
	b.Next[at] = ways(at, b.Stmts[at], here)
	b.waiting = append(b.waiting, inner(at, b.Stmts[at], here)...)
}

func ways(at int, s api.Stmt, here around) []int {
	switch s.Kind {
	case api.SIf:
		return []int{first(s.Then, here.behind), first(s.Else, here.behind)}
	case api.SWhile:
		return []int{first(s.Then, at), here.behind}
	case api.SBreak:
		return []int{here.leave}
	case api.SContinue:
		return []int{here.loop}
	case api.SReturn:
		return []int{exit}
	}
	return []int{here.behind}
}

// inner: the blocks in a statement.
func inner(at int, s api.Stmt, here around) []block {
	switch s.Kind {
	case api.SIf:
		return []block{{s.Then, here}, {s.Else, here}}
	case api.SWhile:
		return []block{{s.Then, around{behind: at, loop: at, leave: here.behind}}}
	}
	return nil
}

// first: the first one of a list; if that is empty, another one.
func first(list []int, other int) int {
	if len(list) == 0 {
		return other
	}
	return list[0]
}
