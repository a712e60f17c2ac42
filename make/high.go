package make

import "rewind/api"

// maxHigh: how high an expression may be, as a stack may be no higher.
const maxHigh = 200

// part: an expression that is a part of something, and how many values stand on the stack ahead of its own.
type part struct{ at, ahead int }

// measurer: a program, and how high those of its expressions are that it has come to.
type measurer struct {
	api.Tree
	highs map[int]int
}

// isTooHigh: is an expression, or an SPut, higher than a stack may be?
func isTooHigh(t api.Tree) bool {
	m := &measurer{Tree: t, highs: map[int]int{}}
	for at := range m.Exprs {
		if m.high(at) > maxHigh {
			return true
		}
	}
	for _, s := range m.Stmts {
		if s.Kind == api.SPut && m.greatest(inRow(s.A, s.B)) > maxHigh {
			return true
		}
	}
	return false
}

// high: how high the expression of a place is. Those whose parts it hasn't come to wait in a list, as an expression may be deeper than calls can be.
func (m *measurer) high(at int) int {
	waiting := []int{at}
	for len(waiting) > 0 {
		last := len(waiting) - 1
		next := waiting[last]
		parts := partsOf(m.Exprs[next])
		if _, seen := m.highs[next]; seen {
			m.highs[next] = m.greatest(parts)
			waiting = waiting[:last]
		} else {
			m.highs[next] = 0
			waiting = append(waiting, m.unseen(parts)...)
		}
	}
	return m.highs[at]
}

// unseen: the parts that it hasn't come to.
func (m *measurer) unseen(parts []part) []int {
	var out []int
	for _, p := range parts {
		if _, seen := m.highs[p.at]; !seen {
			out = append(out, p.at)
		}
	}
	return out
}

// greatest: how high what has some parts is.
func (m *measurer) greatest(parts []part) int {
	out := 1
	for _, p := range parts {
		out = max(out, m.highs[p.at]+p.ahead)
	}
	return out
}

// partsOf: an expression's parts, from the left.
func partsOf(x api.Expr) []part {
	switch x.Kind {
	case api.EIndex, api.EUnary:
		return inRow(x.A)
	case api.ECall:
		return inRow(x.List...)
	case api.EPair:
		if isChoice(x) {
			// What the first part is goes ahead of the second one.
			return []part{{at: x.A}, {at: x.B}}
		}
		return inRow(x.A, x.B)
	}
	return nil
}

// inRow: parts of which each one stays on the stack while those behind it are gone through.
func inRow(list ...int) []part {
	var out []part
	for n, at := range list {
		out = append(out, part{at: at, ahead: n})
	}
	return out
}

// isChoice: is it a pair that leaves out its second part where the first one tells?
func isChoice(x api.Expr) bool { return x.Op == "&&" || x.Op == "||" }
