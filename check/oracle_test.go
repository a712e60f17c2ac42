package check_test

import (
	"cmp"
	"slices"

	"rewind/api"
	"rewind/check"
)

// oracle says the chapter's words once more, without going through a program: where each thing stands, what each thing is, and all that is wrong at once, of which the first is looked for by where it would be told.
type oracle struct {
	api.Tree
	lists  []stood // of each statement
	of     []int   // of each expression its statement
	names  []meant // of the whole program, each function's by their slots
	faults []fault
}

// stood: the lists that a statement stands in, the outermost first: each one's number, and the statement's place in it.
type stood struct {
	function  int
	lists, in []int
	whiles    int
}

// meant: a name, its slot and type; in is -1 of a parameter, which stands in its function's list ahead of all.
type meant struct {
	text                 string
	function, slot, kind int
	stmt                 int // -1: it is a parameter
	list, in             int
}

// fault: the one that has the least key is told.
type fault struct {
	key   [5]int
	place int
	e     api.Errno
}

func newOracle(p api.Tree) *oracle {
	o := &oracle{Tree: p, lists: make([]stood, len(p.Stmts)), of: make([]int, len(p.Exprs))}
	for n, f := range p.Funcs {
		o.stand(f.Body, stood{function: n}, new(int))
	}
	return o
}

// stand tells each statement of a list, and all in it, where it stands. Lists have the numbers in which they are met; a function's own is 0.
func (o *oracle) stand(list []int, in stood, numbers *int) {
	number := *numbers
	*numbers++
	for n, at := range list {
		s := o.Stmts[at]
		here := in
		here.lists, here.in = append(slices.Clone(in.lists), number), append(slices.Clone(in.in), n)
		o.lists[at] = here
		for _, x := range o.given(s) {
			o.belong(x, at)
		}
		if s.Kind == api.SWhile {
			here.whiles++
		}
		if len(s.Then) > 0 {
			o.stand(s.Then, here, numbers)
		}
		if len(s.Else) > 0 {
			o.stand(s.Else, here, numbers)
		}
	}
}

func (o *oracle) given(s api.Stmt) []int {
	switch s.Kind {
	case api.SArray, api.SBreak, api.SContinue:
		return nil
	case api.SPut:
		return []int{s.A, s.B}
	case api.SReturn:
		if s.A < 0 {
			return nil
		}
	}
	return []int{s.A}
}

func (o *oracle) parts(x api.Expr) []int {
	switch x.Kind {
	case api.EPair:
		return []int{x.A, x.B}
	case api.EUnary, api.EIndex:
		return []int{x.A}
	}
	return x.List
}

func (o *oracle) belong(at, stmt int) {
	o.of[at] = stmt
	for _, part := range o.parts(o.Exprs[at]) {
		o.belong(part, stmt)
	}
}

// find: all names, by where they begin in the text.
func (o *oracle) find() {
	var stmts []int
	for at, s := range o.Stmts {
		if s.Kind == api.SVar || s.Kind == api.SArray {
			stmts = append(stmts, at)
		}
	}
	slices.SortFunc(stmts, func(a, b int) int { return cmp.Compare(o.Stmts[a].Span.From, o.Stmts[b].Span.From) })
	counts := make([]int, len(o.Funcs))
	for n, f := range o.Funcs {
		counts[n] = len(f.Params)
		for slot, text := range f.Params {
			o.names = append(o.names, meant{text: text, function: n, slot: slot, kind: api.Int, stmt: -1, in: -1})
		}
	}
	for _, at := range stmts {
		s, here := o.Stmts[at], o.lists[at]
		last := len(here.lists) - 1
		m := meant{text: s.Name, function: here.function, slot: counts[here.function], kind: api.List, stmt: at, list: here.lists[last], in: here.in[last]}
		counts[m.function]++
		if s.Kind == api.SVar {
			m.kind = o.kind(s.A)
		}
		o.names = append(o.names, m)
	}
}

// what: what a name stands for at a statement.
func (o *oracle) what(stmt int, text string) (meant, bool) {
	here := o.lists[stmt]
	var out meant
	deepest := -1
	for _, m := range o.names {
		depth := slices.Index(here.lists, m.list)
		if m.text == text && m.function == here.function && depth > deepest && m.in < here.in[depth] {
			out, deepest = m, depth
		}
	}
	return out, deepest >= 0
}

func (o *oracle) function(name string) int {
	return slices.IndexFunc(o.Funcs, func(f api.Func) bool { return f.Name == name })
}

// signs: the types that the parts of what has a sign must have, and its own; a sign behind "1" has one part.
func signs() map[string][2]int {
	return map[string][2]int{
		"1-": {api.Int, api.Int}, "1!": {api.Bool, api.Bool},
		"+": {api.Int, api.Int}, "-": {api.Int, api.Int}, "*": {api.Int, api.Int}, "/": {api.Int, api.Int}, "%": {api.Int, api.Int},
		"<": {api.Int, api.Bool}, "<=": {api.Int, api.Bool}, ">": {api.Int, api.Bool}, ">=": {api.Int, api.Bool},
		"&&": {api.Bool, api.Bool}, "||": {api.Bool, api.Bool},
		"==": {0, api.Bool}, "!=": {0, api.Bool},
	}
}

// kind: an expression's type, which hangs on names, functions and signs alone.
func (o *oracle) kind(at int) int {
	switch x := o.Exprs[at]; x.Kind {
	case api.ETrue, api.EFalse:
		return api.Bool
	case api.EName:
		m, _ := o.what(o.of[at], x.Name)
		return m.kind
	case api.ECall:
		if n := o.function(x.Name); n >= 0 {
			return o.Funcs[n].Type
		}
	case api.EUnary:
		return signs()["1"+x.Op][1]
	case api.EPair:
		return signs()[x.Op][1]
	}
	return api.Int
}

const behindParts = 1 << 40

// wrong puts down a fault of a function; what is at a lesser place of the text comes first, and of what is at one the lesser rank, stage, part.
func (o *oracle) wrong(e api.Errno, s api.Span, key ...int) {
	f := fault{place: s.From, e: e}
	copy(f.key[:], key)
	o.faults = append(o.faults, f)
}

func (o *oracle) wrongFunctions() {
	for n, f := range o.Funcs {
		if o.function(f.Name) != n {
			o.wrong(api.ErrTwice, f.Span, 0, n)
		}
		for i, text := range f.Params {
			if slices.Contains(f.Params[:i], text) {
				o.wrong(api.ErrTwice, f.Span, 3+n, -1, 0)
			}
		}
		if len(f.Params) > api.MaxNames {
			o.wrong(api.ErrMany, f.Span, 3+n, -1, 1)
		}
	}
	if o.Funcs[0].Name != "main" {
		o.wrong(api.ErrNone, api.Span{}, 1)
	}
	if f := o.Funcs[0]; len(f.Params) > 0 || f.Type != api.Unit {
		o.wrong(api.ErrType, f.Span, 2)
	}
}

func (o *oracle) wrongExpr(at int) {
	x := o.Exprs[at]
	put := func(e api.Errno, s api.Span, stage, part int) {
		o.wrong(e, s, 3+o.lists[o.of[at]].function, x.Span.To, at, stage, part)
	}
	for n, part := range o.parts(x) {
		if o.kind(part) == api.Unit {
			put(api.ErrType, o.Exprs[part].Span, 0, n)
		}
	}
	m, ok := o.what(o.of[at], x.Name)
	n := o.function(x.Name)
	switch {
	case x.Kind == api.EName && (!ok || m.kind == api.List), x.Kind == api.EIndex && (!ok || m.kind != api.List), x.Kind == api.ECall && n < 0:
		put(api.ErrName, x.Span, 1, 0)
	case !o.partsFit(x, n):
		put(api.ErrType, x.Span, 2, 0)
	}
}

// partsFit: have an expression's parts the types that they must have? n is the function of a call.
func (o *oracle) partsFit(x api.Expr, n int) bool {
	want := api.Int
	switch x.Kind {
	case api.ECall:
		if n >= 0 && len(o.Funcs[n].Params) != len(x.List) {
			return false
		}
	case api.EUnary:
		want = signs()["1"+x.Op][0]
	case api.EPair:
		if want = signs()[x.Op][0]; want == 0 {
			want = o.kind(x.A)
		}
	}
	return !slices.ContainsFunc(o.parts(x), func(at int) bool { return o.kind(at) != want })
}

func (o *oracle) wrongStmt(at int) {
	s, here := o.Stmts[at], o.lists[at]
	place := s.Span.To
	if s.Kind == api.SIf || s.Kind == api.SWhile {
		place = o.Exprs[s.A].Span.To
	}
	put := func(e api.Errno, s api.Span, stage int) { o.wrong(e, s, 3+here.function, place, behindParts, stage) }
	for _, x := range o.given(s) {
		if o.kind(x) == api.Unit && s.Kind != api.SCall {
			put(api.ErrType, o.Exprs[x].Span, 0)
		}
	}
	m, ok := o.what(at, s.Name)
	switch s.Kind {
	case api.SArray, api.SVar:
		o.wrongName(at, put)
	case api.SSet:
		if !ok || m.kind == api.List {
			put(api.ErrName, s.Span, 2)
		}
	case api.SPut:
		if !ok || m.kind != api.List {
			put(api.ErrName, s.Span, 2)
		}
	case api.SBreak, api.SContinue:
		if here.whiles == 0 {
			put(api.ErrJump, s.Span, 4)
		}
	}
	if !o.stmtFits(s, m.kind, o.Funcs[here.function].Type) {
		put(api.ErrType, s.Span, 4)
	}
}

// wrongName: what is wrong with the name that a statement brings.
func (o *oracle) wrongName(at int, put func(e api.Errno, s api.Span, stage int)) {
	s := o.Stmts[at]
	own := o.names[slices.IndexFunc(o.names, func(m meant) bool { return m.stmt == at })]
	if s.Kind == api.SArray && (s.Num < 1 || s.Num > api.MaxArray) {
		put(api.ErrRange, s.Span, 1)
	}
	for _, m := range o.names {
		if m.text == own.text && m.function == own.function && m.list == own.list && m.in < own.in {
			put(api.ErrTwice, s.Span, 2)
		}
	}
	if own.slot >= api.MaxNames {
		put(api.ErrMany, s.Span, 3)
	}
}

// stmtFits: have a statement's expressions the types that they must have? name is that of its name, answer its function's.
func (o *oracle) stmtFits(s api.Stmt, name, answer int) bool {
	want := api.Int
	switch s.Kind {
	case api.SSet:
		want = name
	case api.SIf, api.SWhile:
		want = api.Bool
	case api.SReturn:
		if (s.A >= 0) != (answer == api.Int) {
			return false
		}
	case api.SPut:
	default:
		return true
	}
	return !slices.ContainsFunc(o.given(s), func(at int) bool { return o.kind(at) != want })
}

// answer: Check's, and how many things are wrong.
func (o *oracle) answer() (check.Info, int, api.Errno, int) {
	o.find()
	o.wrongFunctions()
	for at := range o.Exprs {
		o.wrongExpr(at)
	}
	for at := range o.Stmts {
		o.wrongStmt(at)
	}
	if len(o.faults) > 0 {
		f := slices.MinFunc(o.faults, func(a, b fault) int { return slices.Compare(a.key[:], b.key[:]) })
		return check.Info{}, f.place, f.e, len(o.faults)
	}
	return o.info(), 0, api.OK, 0
}

// info: what is known, if nothing is wrong.
func (o *oracle) info() check.Info {
	out := check.Info{Slots: make([][]int, len(o.Funcs))}
	for at, x := range o.Exprs {
		slot := -1
		switch x.Kind {
		case api.EName, api.EIndex:
			m, _ := o.what(o.of[at], x.Name)
			slot = m.slot
		case api.ECall:
			slot = o.function(x.Name)
		}
		out.Type, out.Slot = append(out.Type, o.kind(at)), append(out.Slot, slot)
	}
	for at, s := range o.Stmts {
		slot := -1
		switch s.Kind {
		case api.SSet, api.SPut:
			m, _ := o.what(at, s.Name)
			slot = m.slot
		}
		out.Put, out.Func = append(out.Put, slot), append(out.Func, o.lists[at].function)
	}
	// A function's names have been found in the order of their slots.
	for _, m := range o.names {
		if out.Slots[m.function] = append(out.Slots[m.function], m.kind); m.stmt >= 0 {
			out.Put[m.stmt] = m.slot
		}
	}
	return out
}
