package graph

import "rewind/mach"

// exit: what is behind a call's last statement.
const exit = -1

// follower: a machine that goes on by itself, and what is known where it is.
type follower struct {
	*mach.Machine
	past
	fences []int // of each statement its next fence
}

// begin begins the record that the machine is at; it tells which one that is, and which one let it run.
func (f *follower) begin() (record, by int) {
	x, depth := f.Inner()
	return x.Record, f.past.begin(x, depth-1, f.fence(x.Stmt))
}

// fence: a statement's; of one that the flow hasn't, as only another program's may, the exit.
func (f *follower) fence(stmt int) int {
	if stmt < 0 || stmt >= len(f.fences) {
		return exit
	}
	return f.fences[stmt]
}

// next goes on to where the next record begins, and tells what is read till then, and by whom; false, if the end comes first.
func (f *follower) next(tell func(record int, r Read)) bool {
	more := f.Next()
	for _, x := range f.Touches() {
		if x.Write {
			f.write(x)
		} else {
			tell(x.Record, Read{x.Spot, f.writer(x.Spot)})
		}
	}
	return more
}
