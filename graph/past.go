package graph

import (
	"slices"

	"rewind/mach"
)

// noRecord: what tells that there is no record.
const noRecord = -1

// past: what is known, at a place in a run, of the calls that are in one another, the outermost first.
type past struct{ calls []*call }

// copy: a past that goes on by itself.
func (p *past) copy() past {
	for _, c := range p.calls {
		c.shared = true
	}
	return past{slices.Clone(p.calls)}
}

// place: where the call of a number stands; -1, if it isn't there.
func (p *past) place(number int) int {
	return p.last(func(c *call) bool { return c.number == number })
}

// last: where the innermost call of a kind stands; -1, if there is none.
func (p *past) last(is func(c *call) bool) int {
	for at, c := range slices.Backward(p.calls) {
		if is(c) {
			return at
		}
	}
	return -1
}

// alone: the call at a place, which is this past's alone from now on: it may be changed.
func (p *past) alone(at int) *call {
	if c := p.calls[at]; c.shared {
		p.calls[at] = c.clone()
	}
	return p.calls[at]
}

// enter: the call of a number is the innermost one now, in so many others.
func (p *past) enter(number, around int) {
	c := &call{number: number, record: noRecord}
	if at := p.place(number); at >= 0 {
		c = p.calls[at]
	}
	p.calls = append(p.calls[:around], c)
}

// begin begins a record, in so many calls around its own, of a statement that has this next fence. It tells which record let it run.
func (p *past) begin(f mach.Frame, around, fence int) int {
	// Only in code that no program has, a call may stand there that nothing is known of.
	p.enter(f.Call, min(around, len(p.calls)))
	inner := len(p.calls) - 1
	c := p.alone(inner)
	c.close(f.Stmt)
	by := p.reason(inner)
	c.begin(f.Record, fence)
	return by
}

// reason: the record that lets run what begins now in the call at a place.
func (p *past) reason(at int) int {
	if l := p.calls[at].open; len(l) > 0 {
		return l[len(l)-1].record
	}
	if at == 0 {
		return noRecord
	}
	return p.calls[at-1].record
}

// write writes a spot.
func (p *past) write(x mach.Touch) {
	if p.place(x.Spot.Call) < 0 {
		// It is a parameter of a call that is about to begin. Those that its record called ahead of it have ended, and what they answered was read.
		caller := p.last(func(c *call) bool { return c.record == x.Record })
		p.enter(x.Spot.Call, caller+1)
	}
	p.alone(p.place(x.Spot.Call)).write(x.Spot, x.Record)
}

// writer: the record that wrote a spot last.
func (p *past) writer(s mach.Spot) int {
	at := p.place(s.Call)
	if at < 0 {
		return noRecord
	}
	return p.calls[at].writer(s)
}
