package make

import (
	"slices"

	"rewind/api"
	"rewind/check"
	"rewind/code"
)

// maker: a program, what is known of it, and its code so far, in which a jump's Arg is a label till all labels have their places.
type maker struct {
	api.Tree
	check.Info
	code.Code
	ops    map[sign]int
	places []int // of each label the place that it stands for
	left   int   // how many statements and expressions it hasn't come to
}

// The kinds of pieces.
const (
	instruction = iota
	label       // stands for the place of the instruction behind it
	expression
	statement
)

// piece: what code is made of. An expression, or a statement, is made of pieces itself.
type piece struct {
	kind  int
	instr code.Instr
	at    int   // which label it is, or where the expression or the statement is
	in    while // of a statement the innermost one that it is in
}

// while: the labels of where it comes again, and of what comes behind it.
type while struct{ again, behind int }

func do(op, arg int) piece { return piece{kind: instruction, instr: code.Instr{Op: op, Arg: arg}} }

func here(to int) piece { return piece{kind: label, at: to} }

func value(at int) piece { return piece{kind: expression, at: at} }

func values(list ...int) []piece {
	var out []piece
	for _, at := range list {
		out = append(out, value(at))
	}
	return out
}

func statements(list []int, in while) []piece {
	var out []piece
	for _, at := range list {
		out = append(out, piece{kind: statement, at: at, in: in})
	}
	return out
}

func (m *maker) program() {
	for n, f := range m.Funcs {
		from := len(m.List)
		m.put(body(f))
		p := code.Proc{Name: f.Name, From: from, To: len(m.List), Params: len(f.Params), Slots: len(m.Slots[n]), Type: f.Type}
		m.Procs = append(m.Procs, p)
	}
	m.lead()
}

// body: a function's statements, and the return behind the last one, which is there even if nothing leads to it: by its place it is told from a return statement's.
func body(f api.Func) []piece {
	out := statements(f.Body, while{})
	if f.Type == api.Int {
		return append(out, do(code.Const, 0), do(code.Return, 1))
	}
	return append(out, do(code.Return, 0))
}

// put puts some pieces behind the code. What they are made of waits in a list, as a program may be deeper than calls can be.
func (m *maker) put(pieces []piece) {
	waiting := fromBehind(pieces) // the last comes next
	for len(waiting) > 0 {
		last := len(waiting) - 1
		next := waiting[last]
		waiting = append(waiting[:last], fromBehind(m.putOne(next))...)
	}
}

// putOne puts a piece that is made of no others; of another one it tells what it is made of.
func (m *maker) putOne(p piece) []piece {
	switch p.kind {
	case instruction:
		m.List = append(m.List, p.instr)
	case label:
		m.places[p.at] = len(m.List)
	case expression:
		m.come()
		return m.expression(p.at)
	case statement:
		m.come()
		return m.statement(p.at, p.in)
	}
	return nil
}

// come counts what it comes to, so that a tree that leads back to where it was ends, too: Make catches it.
func (m *maker) come() {
	if m.left == 0 {
		panic(api.ErrDeep)
	}
	m.left--
}

func fromBehind(pieces []piece) []piece {
	out := slices.Clone(pieces)
	slices.Reverse(out)
	return out
}

// newLabel: one that stands for no place so far.
func (m *maker) newLabel() int {
	m.places = append(m.places, 0)
	return len(m.places) - 1
}

// lead gives each jump the place of its label.
func (m *maker) lead() {
	for n, x := range m.List {
		switch x.Op {
		case code.Jump, code.JumpNot, code.And, code.Or:
			m.List[n].Arg = m.places[x.Arg]
		}
	}
}
