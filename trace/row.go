package trace

import (
	"iter"

	"rewind/mach"
)

// beginning: the row of the record whose statement begins. It has touched nothing yet.
func beginning(m *mach.Machine) Row {
	f, depth := m.Inner()
	return Row{Stmt: f.Stmt, Call: f.Call, Func: f.Func, Depth: depth, Out: len(m.Out()), Taken: m.Taken()}
}

// put puts touches to the rows of the records that they belong to: while a statement calls, these aren't the last one's alone.
func put(rows []Row, l []mach.Touch) {
	for _, x := range l {
		// In code that no program has, something may be touched ahead of a call's first statement.
		if x.Record < 0 {
			continue
		}
		r := &rows[x.Record]
		if x.Write {
			r.Writes = append(r.Writes, x.Spot)
		} else {
			r.Reads = append(r.Reads, x.Spot)
		}
	}
}

// ahead: the rows ahead of a record, which may be none that there is.
func (t Trace) ahead(before int) []Row { return t.Rows[:max(0, min(before, len(t.Rows)))] }

// fromBehind gives rows with their records' numbers, the last one first.
func fromBehind(rows []Row) iter.Seq2[int, Row] {
	return func(yield func(record int, r Row) bool) {
		for record := len(rows) - 1; record >= 0; record-- {
			if !yield(record, rows[record]) {
				return
			}
		}
	}
}
