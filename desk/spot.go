package desk

import (
	"rewind/api"
	"rewind/mach"
	"rewind/order"
)

// spot: that of the place that an order names, and its value there.
func (d *Desk) spot(o order.Order) (mach.Spot, int, api.Errno) {
	if d.isAtEnd() {
		return mach.Spot{}, 0, api.ErrNone
	}
	row := d.Trace.Rows[d.at]
	slot := Seen(d.Tree, d.Info, row.Stmt, o.Name)
	if slot == none {
		return mach.Spot{}, 0, api.ErrName
	}
	isArray := d.Info.Slots[row.Func][slot] == api.List
	namesPlace := o.Num >= 0
	if isArray != namesPlace {
		return mach.Spot{}, 0, api.ErrType
	}
	// An order without a place has the Num that a whole slot's spot has.
	s := mach.Spot{Call: row.Call, Slot: slot, Place: o.Num}
	n, there := d.machineAt(d.at).Value(s)
	if !there {
		return mach.Spot{}, 0, api.ErrIndex
	}
	return s, n, api.OK
}

func (d *Desk) print(o order.Order) Reply {
	_, n, e := d.spot(o)
	return Reply{Code: e, Value: n}
}

// why: who wrote it last.
func (d *Desk) why(o order.Order) ([]int, api.Errno) {
	s, _, e := d.spot(o)
	// Whoever writes a spot of a call that goes on, but for who called, is of that call, and has done all that it does as the next one of it begins: the last write ahead is of the last record ahead that writes there.
	return []int{d.Trace.Last(s, d.at)}, e
}
