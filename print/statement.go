package print

import (
	"strconv"
	"strings"

	"rewind/api"
)

func (w *writer) function(f api.Func) {
	w.put(text("func " + f.Name + "(" + strings.Join(f.Params, ", ") + ") "))
	if f.Type == api.Int {
		w.put(text("int "))
	}
	w.block(f.Body, 0)
	w.put(text("\n"))
}

func blanks(blocks int) piece { return text(strings.Repeat("  ", blocks)) }

// block writes a block of what itself stands in so many blocks.
func (w *writer) block(list []int, blocks int) {
	w.put(text("{\n"))
	for _, at := range list {
		w.put(blanks(blocks + 1))
		w.statement(one(w.Stmts, at), blocks+1)
		w.put(text("\n"))
	}
	w.put(blanks(blocks), text("}"))
}

func (w *writer) statement(s api.Stmt, blocks int) {
	switch s.Kind {
	case api.SIf:
		w.choice(s, blocks)
	case api.SWhile:
		w.put(text("while "), part(s.A), text(" "))
		w.block(s.Then, blocks)
	default:
		w.put(simple(s)...)
		w.put(text(";"))
	}
}

// choice writes an if statement, and those that stand alone behind its else, and behind theirs.
func (w *writer) choice(s api.Stmt, blocks int) {
	w.then(s, blocks)
	for w.isChoice(s.Else) {
		s = one(w.Stmts, s.Else[0])
		w.put(text(" else "))
		w.then(s, blocks)
	}
	if len(s.Else) > 0 {
		w.put(text(" else "))
		w.block(s.Else, blocks)
	}
}

// then writes an if statement up to its else.
func (w *writer) then(s api.Stmt, blocks int) {
	w.put(text("if "), part(s.A), text(" "))
	w.block(s.Then, blocks)
}

// isChoice: is it one if statement alone?
func (w *writer) isChoice(list []int) bool {
	return len(list) == 1 && one(w.Stmts, list[0]).Kind == api.SIf
}

// simple: what the text of a statement without blocks is made of, but for its semicolon.
func simple(s api.Stmt) []piece {
	switch s.Kind {
	case api.SVar:
		return []piece{text("var " + s.Name + " = "), part(s.A)}
	case api.SArray:
		return []piece{text("var " + s.Name + "[" + strconv.Itoa(s.Num) + "]")}
	case api.SSet:
		return []piece{text(s.Name + " = "), part(s.A)}
	case api.SPut:
		return []piece{text(s.Name + "["), part(s.A), text("] = "), part(s.B)}
	case api.SBreak:
		return []piece{text("break")}
	case api.SContinue:
		return []piece{text("continue")}
	case api.SReturn:
		return answer(s)
	case api.SPrint:
		return []piece{text("print "), part(s.A)}
	}
	return []piece{part(s.A)}
}

func answer(s api.Stmt) []piece {
	if s.A < 0 {
		return []piece{text("return")}
	}
	return []piece{text("return "), part(s.A)}
}
