package slice

import (
	"rewind/api"
	"rewind/fence"
	"rewind/lean"
)

// exit: what is behind a function's last statement.
const exit = -1

// slicer: a source, and what of it is in a record's slice so far.
type slicer struct {
	Source
	asked   [][]int           // of each statement those that are in the slice, too, if it is in it
	links   map[link]struct{} // what stands in asked
	ran     []bool            // of each statement whether a record up to the slice's is of it
	fences  []int             // of each statement its next fence
	falls   []int             // of each statement where it falls
	isIn    []bool
	waiting []int // those in the slice whose asked ones it hasn't come to
}

// slicerOf: one with nothing in the slice.
func slicerOf(s Source, record int) *slicer {
	size := len(s.Tree.Stmts)
	x := &slicer{
		Source: s,
		asked:  make([][]int, size),
		links:  make(map[link]struct{}),
		ran:    make([]bool, size),
		fences: fence.Next(s.Flow),
		falls:  lean.Falls(s.Tree),
		isIn:   make([]bool, size),
	}
	x.records(record)
	x.blocks()
	x.names()
	return x
}

// fill puts a statement into the slice, and all that belongs there with it.
func (s *slicer) fill(stmt int) {
	s.put(stmt)
	for len(s.waiting) > 0 {
		s.putAsked()
		s.putJumps()
	}
}

func (s *slicer) put(stmt int) {
	if s.hasStatement(stmt) && !s.isIn[stmt] {
		s.isIn[stmt] = true
		s.waiting = append(s.waiting, stmt)
	}
}

func (s *slicer) hasStatement(at int) bool { return at >= 0 && at < len(s.Tree.Stmts) }

// putAsked puts what those in the slice ask for, till they ask for nothing more.
func (s *slicer) putAsked() {
	for len(s.waiting) > 0 {
		last := len(s.waiting) - 1
		at := s.waiting[last]
		s.waiting = s.waiting[:last]
		for _, other := range s.asked[at] {
			s.put(other)
		}
	}
}

// putJumps puts the jumps without which the slice would go elsewhere. Those that it puts ahead of one play a part, but not yet what they ask for.
func (s *slicer) putJumps() {
	for at, x := range s.Tree.Stmts {
		if isJump(x) && s.ran[at] && s.firstIn(s.fences, at) != s.firstIn(s.falls, at) {
			s.put(at)
		}
	}
}

func isJump(x api.Stmt) bool {
	return x.Kind == api.SBreak || x.Kind == api.SContinue || x.Kind == api.SReturn
}

// firstIn: the first one in the slice behind a statement, or the exit. What next tells leads on from each statement, next fences through just what fence.All tells, which would be found anew for each jump.
func (s *slicer) firstIn(next []int, at int) int {
	for range next {
		at = one(next, at)
		if !s.hasStatement(at) {
			return exit
		}
		if s.isIn[at] {
			return at
		}
	}
	return exit
}

// slice: the statements in the slice, rising.
func (s *slicer) slice() []int {
	var out []int
	for at, isIn := range s.isIn {
		if isIn {
			out = append(out, at)
		}
	}
	return out
}
