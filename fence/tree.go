package fence

import (
	"slices"

	"rewind/flow"
)

// unknown: what a statement has whose next fence isn't known so far.
const unknown = -2

// tree: a graph, each of whose statements stands on its next fence, and the lowest ones on the exit.
type tree struct {
	flow.Graph
	order []int // statements, each behind its ways on, but where ways lead back
	rank  []int // of each statement where it is in order, from 1 on
	fence []int // of each statement its next fence, as far as that is known
}

func grown(g flow.Graph) *tree {
	t := &tree{Graph: g, rank: make([]int, len(g.Next)), fence: make([]int, len(g.Next))}
	for at := range t.Next {
		t.rank[at], t.fence[at] = 1, unknown
	}
	t.order = t.ordered()
	for n, at := range t.order {
		t.rank[at] = n + 1
	}
	t.grow()
	return t
}

// grow finds the next fences, again and again: where ways lead back, one of them may hang on a later one.
func (t *tree) grow() {
	for changed := true; changed; {
		changed = false
		t.visit(func(at int) {
			if next := t.meetOfWays(at); next != t.fence[at] {
				t.fence[at], changed = next, true
			}
		})
	}
	t.strays()
}

func (t *tree) visit(see func(at int)) {
	for _, at := range t.order {
		see(at)
	}
}

// strays: what isn't in order has no way to the exit, which is so in no program's graph; it stands on the exit alone.
func (t *tree) strays() {
	for at, next := range t.fence {
		if next == unknown {
			t.fence[at] = exit
		}
	}
}

// meetOfWays: where the ways on of a statement meet, as far as is known of them.
func (t *tree) meetOfWays(at int) int {
	out := unknown
	for _, to := range t.Next[at] {
		switch {
		case !t.known(to):
		case out == unknown:
			out = to
		default:
			out = t.meet(out, to)
		}
	}
	return out
}

func (t *tree) known(at int) bool {
	return at == exit || t.has(at) && t.fence[at] != unknown
}

// meet: the first one on which both stand. What one stands on has a lower rank than itself.
func (t *tree) meet(a, b int) int {
	for a != b {
		if t.ranked(a) < t.ranked(b) {
			a, b = b, a
		}
		a = t.fence[a]
	}
	return a
}

func (t *tree) ranked(at int) int {
	if at == exit {
		return 0
	}
	return t.rank[at]
}

// ordered: all statements from which some way leads to the exit, gone through from there. One that was visited waits on as its complement, till those that lead to it are put out.
func (t *tree) ordered() []int {
	back, seen := t.Back(), make([]bool, len(t.Next))
	waiting, out := t.last(), []int(nil)
	visit := func(at int) {
		if !seen[at] {
			seen[at] = true
			waiting = append(append(waiting, ^at), back[at]...)
		}
	}
	for len(waiting) > 0 {
		end := len(waiting) - 1
		at := waiting[end]
		waiting = waiting[:end]
		if at < 0 {
			out = append(out, ^at)
		} else {
			visit(at)
		}
	}
	slices.Reverse(out)
	return out
}

// last: the statements that have the exit as a way on.
func (t *tree) last() []int {
	var out []int
	for at, ways := range t.Next {
		if slices.Contains(ways, exit) {
			out = append(out, at)
		}
	}
	return out
}

// all: what a statement stands on, itself first; of what is none nothing, of the exit itself.
func (t *tree) all(at int) []int {
	var out []int
	for t.has(at) {
		out = append(out, at)
		at = t.fence[at]
	}
	if at == exit {
		out = append(out, exit)
	}
	return out
}

func (t *tree) has(at int) bool { return at >= 0 && at < len(t.Next) }
