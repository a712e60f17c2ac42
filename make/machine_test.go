package make_test

import (
	"rewind/api"
	"rewind/code"
)

// machine does what chapter 10's instructions say. The return that is a procedure's last instruction is that of a call that ends without one.
type machine struct {
	*run
	c     code.Code
	calls []*called // those that are in one another
	count int       // how many calls there were
	ops   map[int]int
	left  int // how many instructions more it does: code that goes around without a mark ends, too
}

// called: a call of a procedure, and where it is.
type called struct {
	number, proc, at int
	stack            []int
	single           map[int]int
	array            map[int][]int
}

func ran(c code.Code, steps int, inputs []int, ops map[int]int) *run {
	m := &machine{run: &run{steps: steps, inputs: inputs}, c: c, ops: ops, left: (steps + 2) * (len(c.List) + 1) * 10}
	m.ended(func() {
		m.call(0, nil)
		for len(m.calls) > 0 {
			m.step(m.calls[len(m.calls)-1])
		}
	})
	return m.run
}

func (m *machine) call(proc int, args []int) {
	if len(m.calls) == 64 {
		m.stop(api.ErrStack)
	}
	f := &called{number: m.count, proc: proc, at: m.c.Procs[proc].From, single: map[int]int{}, array: map[int][]int{}}
	m.calls, m.count = append(m.calls, f), m.count+1
	for slot, n := range args {
		f.single[slot] = n
		m.touch("write", f.number, slot, -1)
	}
}

func (f *called) push(n int) { f.stack = append(f.stack, n) }

func (f *called) pop() int { return f.take(1)[0] }

// take: the last n values.
func (f *called) take(n int) []int {
	from := len(f.stack) - n
	out := f.stack[from:]
	f.stack = f.stack[:from]
	return out
}

func (m *machine) step(f *called) {
	if m.left == 0 {
		m.stop(-1)
	}
	x := m.c.List[f.at]
	m.ops[x.Op]++
	m.left--
	f.at++
	switch x.Op {
	case code.Mark:
		m.begin(f.number, f.proc, x.Arg)
	case code.Load, code.Store, code.LoadAt, code.StoreAt, code.New:
		m.slot(f, x)
	case code.Const:
		f.push(x.Arg)
	case code.Read:
		f.push(m.read())
	case code.Neg:
		f.push(-f.pop())
	case code.Not:
		f.push(1 - f.pop())
	case code.Jump, code.JumpNot, code.And, code.Or:
		m.jump(f, x)
	case code.Call:
		m.call(x.Arg, append([]int(nil), f.take(m.c.Procs[x.Arg].Params)...))
	case code.Return:
		m.answer(f, x)
	case code.Print1:
		m.print(x.Arg, f.pop())
	case code.Pop:
		f.pop()
	default:
		l := f.take(2)
		f.push(m.pair(x.Op, l[0], l[1]))
	}
}

func (m *machine) slot(f *called, x code.Instr) {
	place := -1
	switch x.Op {
	case code.Load:
		f.push(f.single[x.Arg])
	case code.Store:
		f.single[x.Arg] = f.pop()
	case code.LoadAt:
		place = m.place(f.pop(), f.array[x.Arg])
		f.push(f.array[x.Arg][place])
	case code.StoreAt:
		l := f.take(2)
		place = m.place(l[0], f.array[x.Arg])
		f.array[x.Arg][place] = l[1]
	case code.New:
		f.array[x.Arg] = make([]int, x.More)
		for n := range x.More {
			m.touch("write", f.number, x.Arg, n)
		}
		return
	}
	what := "write"
	if x.Op == code.Load || x.Op == code.LoadAt {
		what = "read"
	}
	m.touch(what, f.number, x.Arg, place)
}

func (m *machine) jump(f *called, x code.Instr) {
	n := 0
	if x.Op != code.Jump {
		n = f.pop()
	}
	leads := x.Op == code.Jump || (x.Op == code.Or) == (n == 1)
	if !leads {
		return
	}
	f.at = x.Arg
	if x.Op == code.And || x.Op == code.Or {
		f.push(n)
	}
}

func (m *machine) answer(f *called, x code.Instr) {
	last := f.at == m.c.Procs[f.proc].To
	m.calls = m.calls[:len(m.calls)-1]
	if x.Arg == 0 {
		return
	}
	if !last {
		m.touch("write", f.number, -1, -1)
	}
	if len(m.calls) > 0 {
		m.calls[len(m.calls)-1].push(f.pop())
		m.touch("read", f.number, -1, -1)
	}
}

func (m *machine) pair(op, a, b int) int {
	switch op {
	case code.Add:
		return a + b
	case code.Sub:
		return a - b
	case code.Mul:
		return a * b
	case code.Div:
		return m.divided("/", a, b)
	case code.Mod:
		return m.divided("%", a, b)
	case code.Lt:
		return btoi(a < b)
	case code.Le:
		return btoi(a <= b)
	case code.Gt:
		return btoi(a > b)
	case code.Ge:
		return btoi(a >= b)
	case code.Eq:
		return btoi(a == b)
	}
	return btoi(a != b)
}
