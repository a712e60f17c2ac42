package desk

import (
	"slices"

	"rewind/api"
)

// none: what tells of a slot, or of a statement, that there is none.
const none = -1

// one: the thing of a place; where there is none, a zero one.
func one[T any](things []T, at int) T {
	if at < 0 || at >= len(things) {
		var zero T
		return zero
	}
	return things[at]
}

// parameter: the slot of a function's parameter of a name.
func parameter(t api.Tree, fn int, name string) int {
	return slices.Index(one(t.Funcs, fn).Params, name)
}

func brings(s api.Stmt, name string) bool {
	return (s.Kind == api.SVar || s.Kind == api.SArray) && s.Name == name
}

// listsAround: the list in which a statement stands, and those in which what it stands in does, the innermost first. They are no more than there are statements, so that a tree that leads back to where it was ends, too.
func listsAround(t api.Tree, stmt int) [][]int {
	var out [][]int
	for at := stmt; at != none && len(out) <= len(t.Stmts); {
		var list []int
		list, at = listOf(t, at)
		out = append(out, list)
	}
	return out
}

// listOf: the list in which a statement stands, and the statement whose that is; none of a function's own.
func listOf(t api.Tree, stmt int) (list []int, owner int) {
	for at, s := range t.Stmts {
		for _, list := range [][]int{s.Then, s.Else} {
			if slices.Contains(list, stmt) {
				return list, at
			}
		}
	}
	for _, f := range t.Funcs {
		if slices.Contains(f.Body, stmt) {
			return f.Body, none
		}
	}
	return nil, none
}
