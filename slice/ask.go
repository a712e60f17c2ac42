package slice

import "rewind/api"

// link: a statement, and one that is in the slice, too, if it is in it.
type link struct{ at, other int }

// slot: a function's.
type slot struct{ fn, number int }

// ask: if a statement is in the slice, another one is in it, too.
func (s *slicer) ask(at, other int) {
	x := link{at, other}
	_, known := s.links[x]
	if known || !s.hasStatement(at) || !s.hasStatement(other) {
		return
	}
	s.links[x] = struct{}{}
	s.asked[at] = append(s.asked[at], other)
}

// records asks for the statements of what records, up to one, hang on. It goes through all of them once, as they rise, whether their statements come into the slice or not: who went to and fro would have a graph with little room make its windows again and again.
func (s *slicer) records(last int) {
	for record, row := range s.Trace.Rows[:last+1] {
		if s.hasStatement(row.Stmt) {
			s.ran[row.Stmt] = true
		}
		for _, other := range s.reasons(record) {
			if s.has(other) {
				s.ask(row.Stmt, s.Trace.Rows[other].Stmt)
			}
		}
	}
}

// reasons: the records that a record hangs on; what is below 0 is none.
func (s *slicer) reasons(record int) []int {
	// Who let it run is asked ahead of what it reads: that may take other windows of the graph, and one with little room gives up the record's own for them.
	by, _ := s.Graph.By(record)
	reads, _ := s.Graph.Reads(record)
	out := []int{by}
	for _, x := range reads {
		out = append(out, x.Writer)
	}
	return out
}

// blocks asks for what statements stand in, and for an if statement alone behind else: that can't be blanked while the else stays.
func (s *slicer) blocks() {
	for at, x := range s.Tree.Stmts {
		for _, inner := range x.Then {
			s.ask(inner, at)
		}
		for _, inner := range x.Else {
			s.ask(inner, at)
		}
		if len(x.Else) == 1 && one(s.Tree.Stmts, x.Else[0]).Kind == api.SIf {
			s.ask(at, x.Else[0])
		}
	}
}

// names asks for the statements that bring the names that statements have.
func (s *slicer) names() {
	brings := make(map[slot]int)
	for at, x := range s.Tree.Stmts {
		if bringsName(x) {
			brings[s.slotOf(at, one(s.Info.Put, at))] = at
		}
	}
	for at := range s.Tree.Stmts {
		for _, number := range Names(s.Tree, s.Info, at) {
			if by, ok := brings[s.slotOf(at, number)]; ok {
				s.ask(at, by)
			}
		}
	}
}

// slotOf: the slot of a number of the function in which a statement stands.
func (s *slicer) slotOf(stmt, number int) slot { return slot{one(s.Info.Func, stmt), number} }
