package slice

import "rewind/api"

// one: the thing of a place; where there is none, a zero one.
func one[T any](things []T, at int) T {
	if at < 0 || at >= len(things) {
		var none T
		return none
	}
	return things[at]
}

// hasName: is it a statement with a slot's name?
func hasName(s api.Stmt) bool {
	return bringsName(s) || s.Kind == api.SSet || s.Kind == api.SPut
}

func bringsName(s api.Stmt) bool { return s.Kind == api.SVar || s.Kind == api.SArray }

// namesSlot: is it an expression with a slot's name? A call has a function's.
func namesSlot(x api.Expr) bool { return x.Kind == api.EName || x.Kind == api.EIndex }

// expressionsOf: all expressions of a statement, each ahead of its parts. They are no more than the program has, so that a tree that leads back to where it was ends, too.
func expressionsOf(t api.Tree, s api.Stmt) []int {
	out := wholes(s)
	for n := 0; n < min(len(out), len(t.Exprs)); n++ {
		out = append(out, parts(one(t.Exprs, out[n]))...)
	}
	return out
}

// wholes: the expressions of a statement that are no parts of others.
func wholes(s api.Stmt) []int {
	switch s.Kind {
	case api.SVar, api.SSet, api.SIf, api.SWhile, api.SPrint, api.SCall:
		return []int{s.A}
	case api.SPut:
		return []int{s.A, s.B}
	case api.SReturn:
		if s.A >= 0 {
			return []int{s.A}
		}
	}
	return nil
}

func parts(x api.Expr) []int {
	switch x.Kind {
	case api.EIndex, api.EUnary:
		return []int{x.A}
	case api.EPair:
		return []int{x.A, x.B}
	case api.ECall:
		return x.List
	}
	return nil
}
