package make_test

import (
	"rewind/api"
	"rewind/check"
	"rewind/flow"
)

// walker does what chapter 13 says of a program, along its tree and its flow.
type walker struct {
	*run
	p     api.Tree
	info  check.Info
	g     flow.Graph
	calls int // how many there were
}

// scope: a call's number, its function, and its slots' values.
type scope struct {
	call, function int
	single         map[int]int
	array          map[int][]int
	answer         int
}

func walked(p api.Tree, info check.Info, steps int, inputs []int) *run {
	w := &walker{run: &run{steps: steps, inputs: inputs}, p: p, info: info, g: flow.Of(p)}
	w.ended(func() { w.call(0, nil, 1) })
	return w.run
}

// call: what a call of a function answers, and its number. It is one of so many in one another.
func (w *walker) call(function int, args []int, depth int) (int, int) {
	if depth > 64 {
		w.stop(api.ErrStack)
	}
	s := &scope{call: w.calls, function: function, single: map[int]int{}, array: map[int][]int{}}
	w.calls++
	for slot, n := range args {
		s.single[slot] = n
		w.touch("write", s.call, slot, -1)
	}
	for at := w.g.First[function]; at != -1; {
		w.begin(s.call, function, at)
		at = w.g.Next[at][w.statement(s, at, depth)]
	}
	return s.answer, s.call
}

// statement does a statement; it tells which way on is taken.
func (w *walker) statement(s *scope, at, depth int) int {
	x, slot := w.p.Stmts[at], w.info.Put[at]
	switch x.Kind {
	case api.SVar, api.SSet:
		s.single[slot] = w.value(s, x.A, depth)
		w.touch("write", s.call, slot, -1)
	case api.SArray:
		s.array[slot] = make([]int, x.Num)
		for n := range x.Num {
			w.touch("write", s.call, slot, n)
		}
	case api.SPut:
		index := w.value(s, x.A, depth)
		n := w.value(s, x.B, depth)
		s.array[slot][w.place(index, s.array[slot])] = n
		w.touch("write", s.call, slot, index)
	case api.SIf, api.SWhile:
		return 1 - w.value(s, x.A, depth)
	case api.SReturn:
		if x.A >= 0 {
			s.answer = w.value(s, x.A, depth)
			w.touch("write", s.call, -1, -1)
		}
	case api.SPrint:
		w.print(w.info.Type[x.A], w.value(s, x.A, depth))
	case api.SCall:
		w.value(s, x.A, depth)
	}
	return 0
}

func (w *walker) value(s *scope, at, depth int) int {
	x, slot := w.p.Exprs[at], w.info.Slot[at]
	switch x.Kind {
	case api.ENum:
		return x.Num
	case api.ETrue, api.EFalse:
		return btoi(x.Kind == api.ETrue)
	case api.EName:
		w.touch("read", s.call, slot, -1)
		return s.single[slot]
	case api.EIndex:
		index := w.place(w.value(s, x.A, depth), s.array[slot])
		w.touch("read", s.call, slot, index)
		return s.array[slot][index]
	case api.ECall:
		return w.called(s, at, depth)
	case api.ERead:
		return w.read()
	case api.EUnary:
		if x.Op == "!" {
			return 1 - w.value(s, x.A, depth)
		}
		return -w.value(s, x.A, depth)
	}
	return w.pair(s, x, depth)
}

func (w *walker) called(s *scope, at, depth int) int {
	var args []int
	for _, a := range w.p.Exprs[at].List {
		args = append(args, w.value(s, a, depth))
	}
	function := w.info.Slot[at]
	answer, number := w.call(function, args, depth+1)
	if w.p.Funcs[function].Type == api.Int {
		w.touch("read", number, -1, -1)
	}
	return answer
}

func (w *walker) pair(s *scope, x api.Expr, depth int) int {
	a := w.value(s, x.A, depth)
	if x.Op == "&&" && a == 0 || x.Op == "||" && a == 1 {
		return a
	}
	b := w.value(s, x.B, depth)
	switch x.Op {
	case "+":
		return a + b
	case "-":
		return a - b
	case "*":
		return a * b
	case "/", "%":
		return w.divided(x.Op, a, b)
	case "<":
		return btoi(a < b)
	case "<=":
		return btoi(a <= b)
	case ">":
		return btoi(a > b)
	case ">=":
		return btoi(a >= b)
	case "==":
		return btoi(a == b)
	case "!=":
		return btoi(a != b)
	}
	return b
}

// highByWords: how high an expression is.
func highByWords(p api.Tree, at int) int {
	x := p.Exprs[at]
	switch x.Kind {
	case api.EIndex, api.EUnary:
		return highByWords(p, x.A)
	case api.EPair:
		a, b := highByWords(p, x.A), highByWords(p, x.B)
		if x.Op == "&&" || x.Op == "||" {
			return max(a, b)
		}
		return max(a, b+1)
	case api.ECall:
		out := 1
		for n, a := range x.List {
			out = max(out, n+highByWords(p, a))
		}
		return out
	}
	return 1
}

// statementHigh: how high what a statement puts on the stack is; 0, if it has no expressions.
func statementHigh(p api.Tree, at int) int {
	switch s := p.Stmts[at]; s.Kind {
	case api.SPut:
		return max(highByWords(p, s.A), highByWords(p, s.B)+1)
	case api.SArray, api.SBreak, api.SContinue:
		return 0
	default:
		if s.A < 0 {
			return 0
		}
		return highByWords(p, s.A)
	}
}
