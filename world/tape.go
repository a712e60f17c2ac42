package world

import (
	"iter"

	"rewind/api"
)

// Tape: a world's inputs, at a place.
type Tape struct {
	World
	at int
}

// Open: a tape.
func Open(w World) (*Tape, api.Errno) {
	if e := w.Good(); e != api.OK {
		return nil, e
	}
	// Whoever handed the inputs in may change them later.
	w.Inputs = append([]int(nil), w.Inputs...)
	return &Tape{World: w}, api.OK
}

// Take: the next input.
func (t *Tape) Take() (int, api.Errno) {
	if t.at >= len(t.Inputs) {
		return 0, api.ErrInput
	}
	n := t.Inputs[t.at]
	t.at++
	return n, api.OK
}

// Left: all that are left.
func (t *Tape) Left() iter.Seq[int] {
	// As they are left now: the tape may be at another place by the time that they are gone through, or gone through again.
	inputs, from := t.Inputs, t.at
	return func(yield func(n int) bool) {
		for at := from; at < len(inputs); at++ {
			if !yield(inputs[at]) {
				return
			}
		}
	}
}

// At: its place.
func (t *Tape) At() int { return t.at }

// Go: to a place.
func (t *Tape) Go(at int) api.Errno {
	if at < 0 || at > len(t.Inputs) {
		return api.ErrRange
	}
	t.at = at
	return api.OK
}
