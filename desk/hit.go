package desk

import (
	"slices"

	"rewind/arena"
	"rewind/mach"
)

// rowSize: of how many records it is found at once whether watches changed. Who goes back would have to come from a shot anew for each record, and who prints behind a shot makes the whole output anew.
const rowSize = 1000

// value: a spot's, if it is there.
type value struct {
	n     int
	there bool
}

// hits: a closure that tells whether a record hits. It is to be asked of records in a row, upward or downward.
func (d *Desk) hits() func(record int) bool {
	rows := arena.Room[[]bool](1)
	return func(record int) bool {
		if d.isBreak(record) {
			return true
		}
		// The first record has none ahead of it.
		if len(d.watches) == 0 || record == 0 {
			return false
		}
		return rows.Ask((record-1)/rowSize, d.changes)[(record-1)%rowSize]
	}
}

// isBreak: does a record's statement begin on a line that is one?
func (d *Desk) isBreak(record int) bool {
	return slices.Contains(d.breaks, d.lines[d.Trace.Rows[record].Stmt])
}

// changes: of each record of a row, behind the one that has the row's number times its size, whether a watch's value isn't what it was at the one ahead of it.
func (d *Desk) changes(row int) []bool {
	out := make([]bool, rowSize)
	m := d.machineAt(row * rowSize)
	was := d.values(m)
	for at := 0; at < len(out) && m.Next(); at++ {
		now := d.values(m)
		out[at] = !slices.Equal(now, was)
		was = now
	}
	return out
}

// values: those of the watches, where a machine is.
func (d *Desk) values(m *mach.Machine) []value {
	var out []value
	for _, s := range d.watches {
		n, there := m.Value(s)
		out = append(out, value{n, there})
	}
	return out
}
