package slice

import "rewind/api"

// spansBut: where the statements stand that aren't among some.
func (s *Source) spansBut(l []int) []api.Span {
	isAmong := make([]bool, len(s.Tree.Stmts))
	for _, at := range l {
		if at >= 0 && at < len(isAmong) {
			isAmong[at] = true
		}
	}
	var out []api.Span
	for at, x := range s.Tree.Stmts {
		if !isAmong[at] {
			out = append(out, x.Span)
		}
	}
	return out
}

// between: what of so many bytes is in none of some spans, which rise and don't touch.
func between(l []api.Span, size int) []api.Span {
	var out []api.Span
	from := 0
	for _, s := range l {
		out = append(out, api.Span{From: from, To: s.From})
		from = s.To
	}
	return append(out, api.Span{From: from, To: size})
}
