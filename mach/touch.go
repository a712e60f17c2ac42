package mach

import (
	"slices"

	"rewind/api"
)

const (
	wholeSlot  = -1 // a spot's place, where it isn't an array's
	answerSlot = -1 // the slot of what a call answers
)

// touch writes down that a call's record reads, or writes, a spot.
func (m *Machine) touch(f *call, s Spot, write bool) {
	m.touches = append(m.touches, Touch{Record: f.Record, Spot: s, Write: write})
}

func (m *Machine) load(f *call, slot int) {
	m.touch(f, Spot{f.Call, slot, wholeSlot}, false)
	f.push(f.Names[slot].N)
}

func (m *Machine) store(f *call, slot int) {
	m.touch(f, Spot{f.Call, slot, wholeSlot}, true)
	f.Names[slot].N = f.pop()
}

func (m *Machine) loadAt(f *call, slot int) {
	list, place := f.Names[slot].List, f.pop()
	if !isIn(list, place) {
		m.stop(api.ErrIndex)
		return
	}
	m.touch(f, Spot{f.Call, slot, place}, false)
	f.push(list[place])
}

func (m *Machine) storeAt(f *call, slot int) {
	taken := f.take(2)
	place, n := taken[0], taken[1]
	list := slices.Clone(f.Names[slot].List)
	if !isIn(list, place) {
		m.stop(api.ErrIndex)
		return
	}
	m.touch(f, Spot{f.Call, slot, place}, true)
	list[place] = n
	f.Names[slot].List = list
}

func isIn[T any](list []T, place int) bool { return place >= 0 && place < len(list) }

func (m *Machine) makeArray(f *call, slot, size int) {
	f.Names[slot].List = make([]int, size)
	for place := range size {
		m.touch(f, Spot{f.Call, slot, place}, true)
	}
}

// call begins a call; what is given to it is written by the record that calls.
func (m *Machine) call(proc int, given []int) {
	if len(m.calls) == api.MaxCalls {
		m.stop(api.ErrStack)
		return
	}
	p := m.Procs[proc]
	f := &call{Frame: Frame{Call: m.count, Func: proc, Stmt: -1, Record: -1, Names: make([]Value, p.Slots)}, at: p.From}
	for slot, n := range given {
		f.Names[slot].N = n
		m.touch(m.innermost(), Spot{f.Call, slot, wholeSlot}, true)
	}
	m.calls = append(m.calls, f)
	m.count++
}

// answer ends a call, with a value or without one.
func (m *Machine) answer(f *call, withValue bool) {
	spot := Spot{f.Call, answerSlot, wholeSlot}
	// A procedure's last instruction is no return statement's, but what a call comes to that ends without one.
	if byStatement := f.at < m.Procs[f.Func].To; withValue && byStatement {
		m.touch(f, spot, true)
	}
	m.calls = m.calls[:len(m.calls)-1]
	if len(m.calls) == 0 {
		m.stop(api.OK)
		return
	}
	m.ownInnermost()
	if withValue {
		m.touch(m.innermost(), spot, false)
		m.innermost().push(f.pop())
	}
}
