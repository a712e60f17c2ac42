package print

import (
	"slices"
	"strconv"

	"rewind/api"
)

// levels: the signs of pairs, the loosest first.
var levels = [...][]string{
	{"||"},
	{"&&"},
	{"==", "!=", "<", "<=", ">", ">="},
	{"+", "-"},
	{"*", "/", "%"},
}

// comparisons: their level, the only one at which no row is made of pairs.
const comparisons = 2

// level: a sign's; -1, if it is none of a pair.
func level(sign string) int {
	for n, signs := range levels {
		if slices.Contains(signs, sign) {
			return n
		}
	}
	return -1
}

// expression: what the text of the expression of a place is made of.
func (w *writer) expression(at int) []piece {
	x := one(w.Exprs, at)
	switch x.Kind {
	case api.EPair:
		return w.pair(x)
	case api.EUnary:
		return append([]piece{text(x.Op)}, w.atLeast(len(levels), x.A)...)
	case api.EIndex:
		return []piece{text(x.Name + "["), part(x.A), text("]")}
	case api.ECall:
		return call(x)
	}
	return []piece{text(single(x))}
}

func (w *writer) pair(x api.Expr) []piece {
	n := level(x.Op)
	first := n
	if n == comparisons {
		first = n + 1
	}
	return slices.Concat(w.atLeast(first, x.A), []piece{text(" " + x.Op + " ")}, w.atLeast(n+1, x.B))
}

// atLeast: a part, with brackets around it if it is a pair of a level below n.
func (w *writer) atLeast(n, at int) []piece {
	x := one(w.Exprs, at)
	if x.Kind == api.EPair && level(x.Op) < n {
		return []piece{text("("), part(at), text(")")}
	}
	return []piece{part(at)}
}

func call(x api.Expr) []piece {
	out := []piece{text(x.Name + "(")}
	for i, at := range x.List {
		if i > 0 {
			out = append(out, text(", "))
		}
		out = append(out, part(at))
	}
	return append(out, text(")"))
}

// single: the text of an expression without parts.
func single(x api.Expr) string {
	switch x.Kind {
	case api.ENum:
		return strconv.Itoa(x.Num)
	case api.ETrue:
		return "true"
	case api.EFalse:
		return "false"
	case api.ERead:
		return "read"
	}
	return x.Name
}
