package graph

import (
	"slices"

	"rewind/mach"
)

// call: what is known of a call.
type call struct {
	number int
	record int // the one that began last in it
	open   []open
	slots  []slot // the first one is that of its answer
	shared bool   // more than one past may have it: nobody changes it any more
}

// slot: who wrote it.
type slot struct {
	writers []int // of each place the record that wrote it last; the first one is of the whole slot
	own     bool  // no other call has this list
}

// open: a record, and the next fence of its statement. It is open till that begins in its call, which has those that are, the last one behind all others.
//
// What begins leans on the way that the last open record took: it is on each way to the exit from all that came since (else one of these were open still), but not from that record's statement (whose fence didn't come yet, so that it is an if or a while). So it leans on none that came since, either.
type open struct{ record, fence int }

// clone: a call that goes on by itself. Both have the lists of writers, till one of them writes.
func (c *call) clone() *call {
	out := *c
	out.open, out.slots, out.shared = slices.Clone(c.open), slices.Clone(c.slots), false
	for at := range out.slots {
		out.slots[at].own = false
	}
	return &out
}

// close closes the records whose fence a statement is.
func (c *call) close(stmt int) {
	c.open = slices.DeleteFunc(c.open, func(x open) bool { return x.fence == stmt })
}

// begin opens a record. Those that have the same fence aren't the last one any more, till all of them are closed at once: there is no need of them.
func (c *call) begin(record, fence int) {
	c.close(fence)
	c.record, c.open = record, append(c.open, open{record, fence})
}

// placesOf: where a spot's writer stands, as slots and places begin at -1.
func placesOf(s mach.Spot) (at, place int) { return s.Slot + 1, s.Place + 1 }

func (c *call) write(s mach.Spot, record int) {
	at, place := placesOf(s)
	for at >= len(c.slots) {
		c.slots = append(c.slots, slot{})
	}
	x := &c.slots[at]
	if !x.own {
		x.writers, x.own = slices.Clone(x.writers), true
	}
	for place >= len(x.writers) {
		x.writers = append(x.writers, noRecord)
	}
	x.writers[place] = record
}

func (c *call) writer(s mach.Spot) int {
	at, place := placesOf(s)
	if at >= len(c.slots) || place >= len(c.slots[at].writers) {
		return noRecord
	}
	return c.slots[at].writers[place]
}
