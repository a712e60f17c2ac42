package desk

import (
	"strings"

	"rewind/api"
	"rewind/check"
	"rewind/flow"
	"rewind/graph"
	"rewind/make"
	"rewind/page"
	"rewind/slice"
	"rewind/trace"
	"rewind/world"
)

// sourceOf: what there is to know of a program that is right.
func sourceOf(text string, t api.Tree, info check.Info, w world.World, pace, room int) (slice.Source, api.Errno) {
	c, e := make.Make(t, info)
	if e != api.OK {
		return slice.Source{}, e
	}
	f := flow.Of(t)
	g, e := graph.New(c, w, f, pace, room)
	if e != api.OK {
		return slice.Source{}, e
	}
	l, e := trace.Of(c, w)
	if e != api.OK {
		return slice.Source{}, e
	}
	return slice.Source{Text: strings.Clone(text), Tree: t, Info: info, Flow: f, Graph: g, Trace: l}, api.OK
}

// linesOf: of each statement the line on which it begins.
func linesOf(s slice.Source) []int {
	var out []int
	for _, x := range s.Tree.Stmts {
		line, _, _ := page.Place(s.Text, x.Span.From)
		out = append(out, line)
	}
	return out
}
