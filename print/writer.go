package print

import (
	"slices"
	"strings"

	"rewind/api"
)

// writer: a program, and what is written of its text.
type writer struct {
	api.Tree
	out strings.Builder
}

// piece: a text, or a part, which is the text of the expression of a place.
type piece struct {
	isPart bool
	text   string
	at     int
}

func text(s string) piece { return piece{text: s} }

func part(at int) piece { return piece{isPart: true, at: at} }

// put writes some pieces. What parts are made of waits in a list, as an expression may be deeper than calls can be.
func (w *writer) put(pieces ...piece) {
	waiting := fromBehind(pieces) // the last comes next
	for len(waiting) > 0 {
		last := len(waiting) - 1
		next := waiting[last]
		waiting = waiting[:last]
		if next.isPart {
			waiting = append(waiting, fromBehind(w.expression(next.at))...)
		} else {
			w.out.WriteString(next.text)
		}
	}
}

func fromBehind(pieces []piece) []piece {
	out := slices.Clone(pieces)
	slices.Reverse(out)
	return out
}

// one: the thing of a place; where there is none, a zero one, which has no text.
func one[T any](things []T, at int) T {
	if at < 0 || at >= len(things) {
		var none T
		return none
	}
	return things[at]
}
