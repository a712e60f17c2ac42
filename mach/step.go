package mach

import (
	"strings"

	"rewind/api"
	"rewind/code"
)

// mostBetween: how many instructions there may be between two marks, of code that has so many. In code of a program no call comes to an instruction twice without a mark between, and a call that begins and has none is of a function without statements, which has two instructions at most. Other code may go around for ever.
func mostBetween(size int) int { return 3*api.MaxCalls*size + 1 }

func (m *Machine) innermost() *call { return m.calls[len(m.calls)-1] }

// ownInnermost makes the innermost call the machine's alone, as it is going to change.
func (m *Machine) ownInnermost() { m.calls[len(m.calls)-1] = m.innermost().clone() }

// stop ends the program, but where it has ended already.
func (m *Machine) stop(e api.Errno) {
	if !m.ended {
		m.ended, m.end, m.calls = true, e, nil
	}
}

// step does an instruction; it tells whether a statement began.
func (m *Machine) step() bool {
	f := m.innermost()
	x := m.List[f.at]
	f.at++
	if x.Op == code.Mark {
		return m.begin(f, x.Arg)
	}
	m.do(f, x)
	return false
}

// begin begins a statement; it tells whether there was a step left.
func (m *Machine) begin(f *call, stmt int) bool {
	if m.steps == m.tape.Steps {
		m.stop(api.ErrSpent)
		return false
	}
	f.Stmt, f.Record = stmt, m.steps
	m.steps++
	return true
}

// do does an instruction that is no mark.
func (m *Machine) do(f *call, x code.Instr) {
	switch x.Op {
	case code.Const:
		f.push(x.Arg)
	case code.Load:
		m.load(f, x.Arg)
	case code.Store:
		m.store(f, x.Arg)
	case code.LoadAt:
		m.loadAt(f, x.Arg)
	case code.StoreAt:
		m.storeAt(f, x.Arg)
	case code.New:
		m.makeArray(f, x.Arg, x.More)
	case code.Read:
		m.read(f)
	case code.Neg:
		f.push(-f.pop())
	case code.Not:
		f.push(truth(f.pop() == 0))
	case code.Jump, code.JumpNot, code.And, code.Or:
		f.jump(x)
	case code.Call:
		m.call(x.Arg, f.take(m.Procs[x.Arg].Params))
	case code.Return:
		m.answer(f, x.Arg == 1)
	case code.Print1:
		m.print(Show(x.Arg, f.pop()))
	case code.Pop:
		f.pop()
	default:
		m.pair(f, x.Op)
	}
}

func (m *Machine) read(f *call) {
	n, e := m.tape.Take()
	if e != api.OK {
		m.stop(e)
		return
	}
	f.push(n)
}

func (m *Machine) print(value string) {
	if m.writer == nil {
		m.writer = &strings.Builder{}
		m.writer.WriteString(m.out)
	}
	m.writer.WriteString(value + "\n")
	m.out = m.writer.String()
}

// jump goes on at a jump's place, if what it takes leads there; and and or leave it there.
func (f *call) jump(x code.Instr) {
	if x.Op == code.Jump {
		f.at = x.Arg
		return
	}
	n := f.pop()
	leads := (n != 0) == (x.Op == code.Or)
	if !leads {
		return
	}
	f.at = x.Arg
	if x.Op != code.JumpNot {
		f.push(n)
	}
}

func (m *Machine) pair(f *call, op int) {
	l := f.take(2)
	a, b := l[0], l[1]
	if b == 0 && (op == code.Div || op == code.Mod) {
		m.stop(api.ErrZero)
		return
	}
	f.push(valueOf(op, a, b))
}

func valueOf(op, a, b int) int {
	switch op {
	case code.Add:
		return a + b
	case code.Sub:
		return a - b
	case code.Mul:
		return a * b
	case code.Div:
		return a / b
	case code.Mod:
		return a % b
	}
	return truth(holds(op, a, b))
}

func holds(op, a, b int) bool {
	switch op {
	case code.Lt:
		return a < b
	case code.Le:
		return a <= b
	case code.Gt:
		return a > b
	case code.Ge:
		return a >= b
	case code.Eq:
		return a == b
	}
	return a != b
}

func truth(b bool) int {
	if b {
		return 1
	}
	return 0
}
