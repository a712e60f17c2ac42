package make

import (
	"rewind/api"
	"rewind/code"
)

// sign: one of an expression's kind, as a - ahead isn't one between.
type sign struct {
	kind int
	text string
}

func opsOfSigns() map[sign]int {
	return map[sign]int{
		{api.EUnary, "-"}: code.Neg,
		{api.EUnary, "!"}: code.Not,
		{api.EPair, "+"}:  code.Add,
		{api.EPair, "-"}:  code.Sub,
		{api.EPair, "*"}:  code.Mul,
		{api.EPair, "/"}:  code.Div,
		{api.EPair, "%"}:  code.Mod,
		{api.EPair, "<"}:  code.Lt,
		{api.EPair, "<="}: code.Le,
		{api.EPair, ">"}:  code.Gt,
		{api.EPair, ">="}: code.Ge,
		{api.EPair, "=="}: code.Eq,
		{api.EPair, "!="}: code.Ne,
		{api.EPair, "&&"}: code.And,
		{api.EPair, "||"}: code.Or,
	}
}

// expression: what the code of the expression of a place is made of.
func (m *maker) expression(at int) []piece {
	x := m.Exprs[at]
	switch x.Kind {
	case api.EIndex:
		return []piece{value(x.A), do(code.LoadAt, m.Slot[at])}
	case api.ECall:
		return append(values(x.List...), do(code.Call, m.Slot[at]))
	case api.EUnary:
		return []piece{value(x.A), do(m.ops[sign{x.Kind, x.Op}], 0)}
	case api.EPair:
		return m.pair(x)
	}
	return []piece{m.single(at, x)}
}

func (m *maker) pair(x api.Expr) []piece {
	op := m.ops[sign{x.Kind, x.Op}]
	if isChoice(x) {
		told := m.newLabel()
		return []piece{value(x.A), do(op, told), value(x.B), here(told)}
	}
	return []piece{value(x.A), value(x.B), do(op, 0)}
}

// single: the instruction of an expression without parts.
func (m *maker) single(at int, x api.Expr) piece {
	switch x.Kind {
	case api.ETrue:
		return do(code.Const, 1)
	case api.EFalse:
		return do(code.Const, 0)
	case api.EName:
		return do(code.Load, m.Slot[at])
	case api.ERead:
		return do(code.Read, 0)
	}
	return do(code.Const, x.Num)
}
