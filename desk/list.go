package desk

import (
	"slices"

	"rewind/api"
	"rewind/order"
)

// most: how many breaks, and how many watches, there may be.
const most = 20

// change puts a thing into a list that hasn't it, or takes one out that has it.
func change[T comparable](l *[]T, x T, put bool) api.Errno {
	at := slices.Index(*l, x)
	switch {
	case put && at >= 0:
		return api.ErrTwice
	case put && len(*l) == most:
		return api.ErrMany
	case put:
		*l = append(*l, x)
	case at < 0:
		return api.ErrNone
	default:
		*l = slices.Delete(*l, at, at+1)
	}
	return api.OK
}

func (d *Desk) changeBreaks(o order.Order) ([]int, api.Errno) {
	e := change(&d.breaks, o.Num, o.Kind == doBreak)
	return d.rising(), e
}

func (d *Desk) changeWatches(o order.Order) ([]int, api.Errno) {
	s, _, e := d.spot(o)
	if e == api.OK {
		e = change(&d.watches, s, o.Kind == doWatch)
	}
	return []int{len(d.watches)}, e
}

// rising: all breaks.
func (d *Desk) rising() []int { return slices.Sorted(slices.Values(d.breaks)) }
