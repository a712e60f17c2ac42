package desk

import (
	"rewind/api"
	"rewind/order"
	"rewind/slice"
)

// The kinds of orders, as chapter 18 numbers them.
const (
	doStep = iota + 1
	doBack
	doNext
	doPrev
	doFinish
	doStart
	doRun
	doRerun
	doGo
	doBreak
	doClear
	doWatch
	doDrop
	doPrint
	doWhy
	doReached
	doSlice
	doWhere
	doList
	doQuit
)

// do does an order, and tells all of the reply but where the desk is behind it.
func (d *Desk) do(o order.Order) Reply {
	switch o.Kind {
	case doBreak, doClear:
		return told(d.changeBreaks(o))
	case doWatch, doDrop:
		return told(d.changeWatches(o))
	case doPrint:
		return d.print(o)
	case doWhy:
		return told(d.why(o))
	case doReached:
		return told(d.reached())
	case doSlice:
		return told(d.slice())
	case doWhere:
		return told(d.where(), api.OK)
	case doList:
		return told(d.rising(), api.OK)
	case doQuit:
		d.closed = true
		return Reply{}
	}
	return d.move(d.wayOf(o))
}

// told: a list's reply, or, beside an error, that one's alone.
func told(list []int, e api.Errno) Reply {
	if e != api.OK {
		return Reply{Code: e}
	}
	return Reply{List: list}
}

func (d *Desk) isAtEnd() bool { return d.at == d.Len() }

func (d *Desk) reached() ([]int, api.Errno) {
	if d.isAtEnd() {
		return nil, api.ErrNone
	}
	by, e := d.Graph.By(d.at)
	return []int{by}, e
}

func (d *Desk) slice() ([]int, api.Errno) {
	if d.isAtEnd() {
		return nil, api.ErrNone
	}
	return slice.Of(d.Source, d.at)
}

// where: of each call its statement.
func (d *Desk) where() []int {
	if d.isAtEnd() {
		return nil
	}
	var out []int
	for _, f := range d.machineAt(d.at).Frames() {
		out = append(out, f.Stmt)
	}
	return out
}
