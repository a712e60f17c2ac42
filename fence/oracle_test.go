package fence_test

import "rewind/flow"

// The words once more, as they stand: a fences at, if no way leads from at to the exit when a is taken out.

// fencesByWords: of each statement which ones fence it; the exit stands behind all of them.
func fencesByWords(g flow.Graph) [][]bool {
	n := len(g.Next)
	out := make([][]bool, n)
	for at := range out {
		out[at] = make([]bool, n+1)
		out[at][n] = true
	}
	for a := range n {
		free := withoutIt(g, a)
		for at := range n {
			out[at][a] = !free[at]
		}
	}
	return out
}

// withoutIt: from which statements the exit is got to without a.
func withoutIt(g flow.Graph, a int) []bool {
	free := make([]bool, len(g.Next))
	for more := true; more; {
		more = false
		for at, next := range g.Next {
			if at == a || free[at] {
				continue
			}
			for _, to := range next {
				if to == exit || free[to] {
					free[at], more = true, true
				}
			}
		}
	}
	return free
}

// nextByWords: all that are a statement's next fence by the words: they fence it, aren't itself, and each other one that is so fences them.
func nextByWords(fences [][]bool, at int) []int {
	n := len(fences)
	var others, out []int
	for a := range n + 1 {
		if a != at && fences[at][a] {
			others = append(others, a)
		}
	}
	for _, a := range others {
		all := true
		for _, b := range others {
			// The exit is fenced by itself alone.
			all = all && (a == b || a < n && fences[a][b])
		}
		if all && a == n {
			out = append(out, exit)
		} else if all {
			out = append(out, a)
		}
	}
	return out
}
