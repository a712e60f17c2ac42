package seek

// goOn brings the machine to a record, or, if the end comes first, there.
func (p *Player) goOn(record int) {
	p.start(record)
	for p.At() < record && p.next() {
	}
}

// start brings the machine as near to a record as there is one, at it or ahead of it.
func (p *Player) start(record int) {
	if p.end != nil && record == p.end.Steps() {
		// From the last shot it may be as many records as the pace, which would cost too much.
		p.here = *p.end.Copy()
		return
	}
	place := min(record/p.Pace(), p.shots.Len()-1)
	if at := p.At(); at >= place*p.Pace() && at <= record {
		return
	}
	if shot, there := p.shots.Get(place); there {
		p.here = *shot.Copy()
	}
}

// next brings the machine to the next record, and takes a shot, if it was never at that and one belongs there; false, if it comes to the end.
func (p *Player) next() bool {
	p.cost++
	if !p.here.Next() {
		p.end = p.here.Copy()
		return false
	}
	if p.At() == p.shots.Len()*p.Pace() {
		p.shots.Put(p.here.Copy())
	}
	return true
}
