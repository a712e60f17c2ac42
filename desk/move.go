package desk

import (
	"rewind/mach"
	"rewind/order"
)

// move brings the desk to a record, or, if there is none of that number, to the end that is nearer to it.
func (d *Desk) move(record int) Reply {
	d.at = min(max(record, 0), d.Len())
	return Reply{Clamped: d.at != record}
}

// wayOf: the record to which an order leads.
func (d *Desk) wayOf(o order.Order) int {
	calls := d.calls(d.at)
	asMany := func(record int) bool { return d.calls(record) <= calls }
	fewer := func(record int) bool { return d.calls(record) < calls }
	switch o.Kind {
	case doBack:
		return d.at - 1
	case doNext:
		return d.firstBehind(asMany)
	case doPrev:
		return d.lastAhead(asMany)
	case doFinish:
		return d.firstBehind(fewer)
	case doStart:
		return d.lastAhead(fewer)
	case doRun:
		return d.firstBehind(d.hits())
	case doRerun:
		return d.lastAhead(d.hits())
	case doGo:
		return o.Num
	}
	return d.at + 1
}

// calls: how many are in one another at a record; 0 at the end.
func (d *Desk) calls(record int) int { return one(d.Trace.Rows, record).Depth }

// firstBehind: the first record behind the desk that is as asked; if there is none, a number above the end's.
func (d *Desk) firstBehind(is func(record int) bool) int {
	for record := d.at + 1; record < d.Len(); record++ {
		if is(record) {
			return record
		}
	}
	return d.Len() + 1
}

// lastAhead: the last record ahead of the desk that is as asked; if there is none, a number below all.
func (d *Desk) lastAhead(is func(record int) bool) int {
	for record := d.at - 1; record >= 0; record-- {
		if is(record) {
			return record
		}
	}
	return -1
}

// machineAt: a machine that is at a record, and goes on by itself.
func (d *Desk) machineAt(record int) *mach.Machine {
	d.Graph.To(record)
	return d.Graph.Here()
}
