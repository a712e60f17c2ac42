package lean

import "rewind/api"

// faller: a program, and where its statements fall, as far as that is known.
type faller struct {
	api.Tree
	falls   []int
	seen    []bool  // of each statement whether it is known
	waiting []block // those whose statements aren't known so far
}

// block: a list of statements, and what comes behind it.
type block struct {
	list   []int
	behind int
}

// program goes through all blocks. Those within others wait in a list, as a tree may be deeper than calls can be.
func (f *faller) program() {
	for _, x := range f.Funcs {
		f.wait(x.Body, exit)
	}
	for len(f.waiting) > 0 {
		last := len(f.waiting) - 1
		next := f.waiting[last]
		f.waiting = f.waiting[:last]
		f.block(next)
	}
}

func (f *faller) wait(list []int, behind int) {
	f.waiting = append(f.waiting, block{list, behind})
}

func (f *faller) block(b block) {
	for n, at := range b.list {
		behind := b.behind
		if n+1 < len(b.list) {
			behind = b.list[n+1]
		}
		f.statement(at, behind)
	}
}

// statement lets a statement fall once, so that a tree that leads back to where it was ends, too.
func (f *faller) statement(at, behind int) {
	if at < 0 || at >= len(f.Stmts) || f.seen[at] {
		return
	}
	f.seen[at], f.falls[at] = true, behind
	switch s := f.Stmts[at]; s.Kind {
	case api.SIf:
		f.wait(s.Then, behind)
		f.wait(s.Else, behind)
	case api.SWhile:
		f.wait(s.Then, at)
	}
}
