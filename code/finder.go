package code

// maxHeight: how high a stack may be.
const maxHeight = 200

// noHeight stands where no instruction leads to.
const noHeight = -1

// finder: code, one of its procedures, and the heights that are known so far.
type finder struct {
	Code
	Proc
	heights []int
	waiting []int // those whose height is known, but not what they lead to
}

// find gives the procedure's instructions their heights; it tells whether they may have them. What waits stands in a list, as a way through code may be longer than calls can be deep.
func (f *finder) find() bool {
	right := f.lead(f.From, 0)
	for right && len(f.waiting) > 0 {
		last := len(f.waiting) - 1
		at := f.waiting[last]
		f.waiting = f.waiting[:last]
		right = f.leadFrom(at)
	}
	return right
}

// leadFrom leads to each one that may come next.
func (f *finder) leadFrom(at int) bool {
	x := f.List[at]
	height := f.heights[at] - f.takes(x)
	if height < 0 {
		return false
	}
	behind := height + f.leaves(x)
	switch x.Op {
	case Return:
		return true
	case Jump:
		return f.lead(x.Arg, behind)
	case JumpNot:
		return f.lead(x.Arg, behind) && f.lead(at+1, behind)
	case And, Or:
		// At its place it leaves what it took.
		return f.lead(x.Arg, f.heights[at]) && f.lead(at+1, behind)
	}
	return f.lead(at+1, behind)
}

// lead gives an instruction a height; it tells whether it may have it.
func (f *finder) lead(to, height int) bool {
	if to >= f.To || height > maxHeight {
		return false
	}
	if f.heights[to] == noHeight {
		f.heights[to] = height
		f.waiting = append(f.waiting, to)
	}
	return f.heights[to] == height
}

func (f *finder) takes(x Instr) int {
	switch x.Op {
	case Call:
		return f.Procs[x.Arg].Params
	case Return:
		return x.Arg
	}
	return shapes[x.Op].takes
}

func (f *finder) leaves(x Instr) int {
	if x.Op == Call {
		return f.Procs[x.Arg].answers()
	}
	return shapes[x.Op].leaves
}
