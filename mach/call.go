package mach

import "slices"

// call: a Frame, the place of its next instruction, and what its expressions have put on its stack so far.
type call struct {
	Frame
	at    int
	stack []int
}

func (f *call) push(n int) { f.stack = append(f.stack, n) }

func (f *call) pop() int { return f.take(1)[0] }

// take: the last n values.
func (f *call) take(n int) []int {
	from := len(f.stack) - n
	out := f.stack[from:]
	f.stack = f.stack[:from]
	return out
}

// clone: a call that goes on by itself. Arrays' lists are in both, as nobody changes them: who puts something into an array makes its list anew.
func (f *call) clone() *call {
	out := *f
	out.Names = slices.Clone(f.Names)
	out.stack = slices.Clone(f.stack)
	return &out
}

// frame: what is told of it, in new memory.
func (f *call) frame() Frame {
	out := f.Frame
	out.Names = slices.Clone(f.Names)
	for slot, v := range f.Names {
		out.Names[slot].List = slices.Clone(v.List)
	}
	return out
}
