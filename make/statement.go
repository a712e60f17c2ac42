package make

import (
	"slices"

	"rewind/api"
	"rewind/code"
)

// statement: what the code of the statement of a place is made of.
func (m *maker) statement(at int, in while) []piece {
	s, mark := m.Stmts[at], do(code.Mark, at)
	if s.Kind == api.SWhile {
		return m.loop(mark, s)
	}
	return append([]piece{mark}, m.rest(at, s, in)...)
}

func (m *maker) loop(mark piece, s api.Stmt) []piece {
	itself := while{again: m.newLabel(), behind: m.newLabel()}
	return slices.Concat(
		[]piece{here(itself.again), mark, value(s.A), do(code.JumpNot, itself.behind)},
		statements(s.Then, itself),
		[]piece{do(code.Jump, itself.again), here(itself.behind)},
	)
}

// rest: what stands behind the mark of a statement that is no while.
func (m *maker) rest(at int, s api.Stmt, in while) []piece {
	switch s.Kind {
	case api.SVar, api.SSet:
		return []piece{value(s.A), do(code.Store, m.Put[at])}
	case api.SArray:
		return []piece{{kind: instruction, instr: code.Instr{Op: code.New, Arg: m.Put[at], More: s.Num}}}
	case api.SPut:
		return []piece{value(s.A), value(s.B), do(code.StoreAt, m.Put[at])}
	case api.SIf:
		return m.choice(s, in)
	case api.SBreak:
		return []piece{do(code.Jump, in.behind)}
	case api.SContinue:
		return []piece{do(code.Jump, in.again)}
	case api.SReturn:
		return answer(s)
	case api.SPrint:
		return []piece{value(s.A), do(code.Print1, m.Type[s.A])}
	}
	return m.call(s)
}

func (m *maker) choice(s api.Stmt, in while) []piece {
	otherwise := m.newLabel()
	out := append([]piece{value(s.A), do(code.JumpNot, otherwise)}, statements(s.Then, in)...)
	if len(s.Else) == 0 {
		return append(out, here(otherwise))
	}
	behind := m.newLabel()
	out = append(out, do(code.Jump, behind), here(otherwise))
	out = append(out, statements(s.Else, in)...)
	return append(out, here(behind))
}

func answer(s api.Stmt) []piece {
	if s.A < 0 {
		return []piece{do(code.Return, 0)}
	}
	return []piece{value(s.A), do(code.Return, 1)}
}

// call: a call alone, of which no value is needed.
func (m *maker) call(s api.Stmt) []piece {
	if m.Type[s.A] == api.Int {
		return []piece{value(s.A), do(code.Pop, 0)}
	}
	return []piece{value(s.A)}
}
