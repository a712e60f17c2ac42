package syntax_test

import (
	"math/rand"
	"strconv"
	"strings"
	"testing"

	"rewind/api"
	"rewind/syntax"
	"rewind/token"
)

// writer writes a program by chance, which is the same in every run, and with it what Parse must answer of it.
type writer struct {
	r    *rand.Rand
	text []byte
	want api.Tree
	left int // how many things may still be written that have parts
}

func written(r *rand.Rand) (string, api.Tree) {
	w := &writer{r: r, left: 5 + r.Intn(40)}
	for range 1 + r.Intn(3) {
		w.function()
	}
	w.gap(false)
	return string(w.text), w.want
}

func (w *writer) pick(l ...string) string { return l[w.r.Intn(len(l))] }

func (w *writer) chance(of int) bool { return w.r.Intn(of) == 0 }

func isLetterOrDigit(b byte) bool {
	return b == '_' || '0' <= b && b <= '9' || 'a' <= b|' ' && b|' ' <= 'z'
}

func (w *writer) gap(must bool) {
	s := w.pick("", "", "", " ", " ", "\n", "\t ", "\r\n", "# ; }\n", " # x\n#(\n ")
	if s == "" && must {
		s = " "
	}
	w.text = append(w.text, s...)
}

// token tells where the token that it writes begins.
func (w *writer) token(s string) int {
	w.gap(len(w.text) > 0 && isLetterOrDigit(w.text[len(w.text)-1]) && isLetterOrDigit(s[0]))
	w.text = append(w.text, s...)
	return len(w.text) - len(s)
}

func (w *writer) name() (int, string) {
	s := w.pick("a", "b", "x", "y1", "_", "main", "iff", "x_2")
	return w.token(s), s
}

func (w *writer) since(from int) api.Span { return span(from, len(w.text)) }

func (w *writer) function() {
	from := w.token("func")
	f := api.Func{Type: api.Unit}
	_, f.Name = w.name()
	w.token("(")
	for i := range w.r.Intn(4) {
		if i > 0 {
			w.token(",")
		}
		_, s := w.name()
		f.Params = append(f.Params, s)
	}
	w.token(")")
	if w.chance(2) {
		w.token("int")
		f.Type = api.Int
	}
	f.Body = w.block()
	f.Span = w.since(from)
	w.want.Funcs = append(w.want.Funcs, f)
}

func (w *writer) block() []int {
	var out []int
	w.token("{")
	for w.left > 0 && !w.chance(4) {
		out = append(out, w.statement())
	}
	w.token("}")
	return out
}

func (w *writer) statement() int {
	w.left--
	switch w.r.Intn(8) {
	case 0:
		return w.choice()
	case 1:
		from := w.token("while")
		s := api.Stmt{Kind: api.SWhile, A: w.expr()}
		s.Then = w.block()
		return w.putStmt(from, s)
	}
	from, s := w.simple()
	w.token(";")
	return w.putStmt(from, s)
}

// simple: a statement without blocks, and where it begins.
func (w *writer) simple() (int, api.Stmt) {
	switch w.r.Intn(6) {
	case 0:
		return w.token("break"), api.Stmt{Kind: api.SBreak}
	case 1:
		return w.token("continue"), api.Stmt{Kind: api.SContinue}
	case 2:
		from := w.token("return")
		if w.chance(2) {
			return from, api.Stmt{Kind: api.SReturn, A: -1}
		}
		return from, api.Stmt{Kind: api.SReturn, A: w.expr()}
	case 3:
		return w.token("print"), api.Stmt{Kind: api.SPrint, A: w.expr()}
	case 4:
		at, from := w.call(w.name())
		return from, api.Stmt{Kind: api.SCall, A: at}
	}
	return w.named()
}

// named: a statement that gives a name something.
func (w *writer) named() (int, api.Stmt) {
	switch w.r.Intn(4) {
	case 0:
		from, s := w.name()
		return from, api.Stmt{Kind: api.SSet, Name: s, A: w.given()}
	case 1:
		from, s := w.name()
		at := w.index()
		return from, api.Stmt{Kind: api.SPut, Name: s, A: at, B: w.given()}
	case 2:
		from := w.token("var")
		_, s := w.name()
		return from, api.Stmt{Kind: api.SVar, Name: s, A: w.given()}
	}
	from := w.token("var")
	_, s := w.name()
	w.token("[")
	_, n := w.number()
	w.token("]")
	return from, api.Stmt{Kind: api.SArray, Name: s, Num: n}
}

func (w *writer) given() int {
	w.token("=")
	return w.expr()
}

func (w *writer) choice() int {
	from := w.token("if")
	s := api.Stmt{Kind: api.SIf, A: w.expr()}
	s.Then = w.block()
	if w.chance(2) {
		w.token("else")
		if w.chance(2) {
			s.Else = w.block()
		} else {
			s.Else = []int{w.choice()}
		}
	}
	return w.putStmt(from, s)
}

func (w *writer) putStmt(from int, s api.Stmt) int {
	s.Span = w.since(from)
	w.want.Stmts = append(w.want.Stmts, s)
	return len(w.want.Stmts) - 1
}

func (w *writer) put(from int, x api.Expr) int {
	x.Span = w.since(from)
	w.want.Exprs = append(w.want.Exprs, x)
	return len(w.want.Exprs) - 1
}

func (w *writer) expr() int {
	at, _ := w.row(0)
	return at
}

// row tells a place, and where what it wrote begins, brackets and all.
func (w *writer) row(level int) (int, int) {
	if level == len(opLevels()) {
		return w.operand()
	}
	at, from := w.row(level + 1)
	for w.left > 0 && w.chance(6) {
		op := w.pick(opLevels()[level]...)
		w.token(op)
		b, _ := w.row(level + 1)
		at = w.put(from, api.Expr{Kind: api.EPair, A: at, Op: op, B: b})
		if level == comparisons {
			break
		}
	}
	return at, from
}

func (w *writer) operand() (int, int) {
	w.left--
	kind := w.r.Intn(9)
	if w.left <= 0 {
		kind %= 5
	}
	switch kind {
	case 0, 1:
		from, n := w.number()
		return w.put(from, api.Expr{Kind: api.ENum, Num: n}), from
	case 2:
		s := w.pick("true", "false", "read")
		from := w.token(s)
		return w.put(from, api.Expr{Kind: map[string]int{"true": api.ETrue, "false": api.EFalse, "read": api.ERead}[s]}), from
	case 5:
		from, s := w.name()
		return w.put(from, api.Expr{Kind: api.EIndex, A: w.index(), Name: s}), from
	case 6:
		return w.call(w.name())
	case 7:
		op := w.pick("-", "!")
		from := w.token(op)
		at, _ := w.operand()
		return w.put(from, api.Expr{Kind: api.EUnary, Op: op, A: at}), from
	case 8:
		from := w.token("(")
		at := w.expr()
		w.token(")")
		return at, from
	}
	from, s := w.name()
	return w.put(from, api.Expr{Kind: api.EName, Name: s}), from
}

func (w *writer) number() (int, int) {
	n := []int{0, 1, 7, 64, 1000, 999999999999999999}[w.r.Intn(6)]
	return w.token(strconv.Itoa(n)), n
}

func (w *writer) index() int {
	w.token("[")
	at := w.expr()
	w.token("]")
	return at
}

func (w *writer) call(from int, name string) (int, int) {
	var l []int
	w.token("(")
	for i := range w.r.Intn(4) {
		if i > 0 {
			w.token(",")
		}
		l = append(l, w.expr())
	}
	w.token(")")
	return w.put(from, api.Expr{Kind: api.ECall, Name: name, List: l}), from
}

func TestProgramsByChance(t *testing.T) {
	r := rand.New(rand.NewSource(4))
	for range 3000 {
		text, want := written(r)
		wantTree(t, text, want)
		wantPartsWithin(t, text)
		if t.Failed() {
			return
		}
	}
}

// wantPartsWithin: what is part of something has a place ahead of it, and a span within its.
func wantPartsWithin(t *testing.T, text string) {
	t.Helper()
	p := wantRight(t, text)
	expr := func(whole api.Span, below, at int) {
		if s := p.Exprs[at].Span; at >= below || s.From < whole.From || s.To > whole.To || s.From >= s.To {
			t.Errorf("P4.2: Parse(%q): the expression %d, %v, is part of %v", text, at, s, whole)
		}
	}
	stmts := func(whole api.Span, below int, l []int) {
		for _, at := range l {
			if s := p.Stmts[at].Span; at >= below || s.From < whole.From || s.To > whole.To || s.From >= s.To {
				t.Errorf("P4.2: Parse(%q): the statement %d, %v, is part of %v", text, at, s, whole)
			}
		}
	}
	for at, x := range p.Exprs {
		parts := x.List
		switch x.Kind {
		case api.EPair:
			parts = []int{x.A, x.B}
		case api.EIndex, api.EUnary:
			parts = []int{x.A}
		}
		for _, part := range parts {
			expr(x.Span, at, part)
		}
	}
	for at, s := range p.Stmts {
		stmts(s.Span, at, s.Then)
		stmts(s.Span, at, s.Else)
		switch {
		case s.Kind == api.SPut:
			expr(s.Span, len(p.Exprs), s.B)
			expr(s.Span, len(p.Exprs), s.A)
		case s.Kind != api.SArray && s.Kind != api.SBreak && s.Kind != api.SContinue && s.A >= 0:
			expr(s.Span, len(p.Exprs), s.A)
		}
	}
	for _, f := range p.Funcs {
		stmts(f.Span, len(p.Stmts), f.Body)
	}
}

// grammar says the chapter's words once more: of each thing the ways to write it.
func grammar() map[string][]string {
	return map[string][]string{
		"program":   {"function functions"},
		"functions": {"", "function functions"},
		"function":  {"func NAME ( params ) type block"},
		"params":    {"", "NAME params2"},
		"params2":   {"", ", NAME params2"},
		"type":      {"", "int"},
		"block":     {"{ states }"},
		"states":    {"", "state states"},
		"state":     {"var NAME = or ;", "var NAME [ NUMBER ] ;", "NAME = or ;", "NAME [ or ] = or ;", "choice", "while or block", "break ;", "continue ;", "return ;", "return or ;", "print or ;", "NAME ( args ) ;"},
		"choice":    {"if or block choice2"},
		"choice2":   {"", "else block", "else choice"},
		"args":      {"", "or args2"},
		"args2":     {"", ", or args2"},
		"or":        {"and or2"},
		"or2":       {"", "|| and or2"},
		"and":       {"compare and2"},
		"and2":      {"", "&& compare and2"},
		"compare":   {"sum compare2"},
		"compare2":  {"", "== sum", "!= sum", "< sum", "<= sum", "> sum", ">= sum"},
		"sum":       {"times sum2"},
		"sum2":      {"", "+ times sum2", "- times sum2"},
		"times":     {"part times2"},
		"times2":    {"", "* part times2", "/ part times2", "% part times2"},
		"part":      {"- part", "! part", "NUMBER", "true", "false", "read", "NAME", "NAME [ or ]", "NAME ( args )", "( or )"},
	}
}

// machine reads tokens by the grammar, on all ways at once: each is a row of what must still come.
type machine struct {
	rules map[string][]string
	ways  map[string]bool
}

// open puts a way in, and instead of what the grammar has ways for each of these.
func (m *machine) open(ways map[string]bool, way string) {
	first, rest, _ := strings.Cut(way, " ")
	rules, ok := m.rules[first]
	if !ok {
		ways[way] = true
		return
	}
	for _, s := range rules {
		m.open(ways, strings.TrimSpace(s+" "+rest))
	}
}

// read tells whether a token can stand next.
func (m *machine) read(s string) bool {
	next := map[string]bool{}
	for way := range m.ways {
		if first, rest, _ := strings.Cut(way, " "); first == s {
			m.open(next, rest)
		}
	}
	m.ways = next
	return len(next) > 0
}

// firstWrong: the place of the first token that can't stand; -1, if each can.
func firstWrong(text string) int {
	l, _, _ := token.All(text)
	m := &machine{rules: grammar(), ways: map[string]bool{}}
	m.open(m.ways, "program")
	for i, s := range token.Text(text, l) {
		switch l[i].Kind {
		case api.Name:
			s = "NAME"
		case api.Number:
			s = "NUMBER"
		case api.End:
			if m.ways[""] {
				return -1
			}
		}
		if !m.read(s) {
			return l[i].Span.From
		}
	}
	return -1
}

func wantByGrammar(t *testing.T, text string) {
	t.Helper()
	if place := firstWrong(text); place >= 0 {
		wantFaultAt(t, text, place, api.ErrParse)
	} else {
		wantRight(t, text)
	}
}

func vocabulary() []string {
	return append(strings.Fields("x f 1 == != <= >= && || + - * / % < > ! = ( ) { } [ ] , ;"), token.Words()...)
}

// Each token of a program is taken away, made another one, and got another one ahead.
func TestEachTokenWrong(t *testing.T) {
	tokens := strings.Fields("func f ( a , b ) int { var x = - 1 ; var c [ 3 ] ; x = ( a ) ; c [ 0 ] = c [ 1 ] ; if a < b && ! true { break ; } else if false || b { continue ; } else { f ( ) ; } while read { f ( 1 , x ) ; } return ; return f ( a % 2 ) ; print x ; } func g ( ) { }")
	for n := range tokens {
		ahead, behind := strings.Join(tokens[:n], " ")+" ", " "+strings.Join(tokens[n+1:], " ")
		wantByGrammar(t, ahead+behind)
		for _, s := range vocabulary() {
			wantByGrammar(t, ahead+s+behind)
			wantByGrammar(t, ahead+s+" "+tokens[n]+behind)
		}
	}
}

// changed: some tokens of a text taken away, written twice, made others, or the text ended there.
func changed(r *rand.Rand, text string) string {
	l, _, _ := token.All(text)
	tokens := token.Text(text, l)
	for range 1 + r.Intn(3) {
		n, all := r.Intn(len(tokens)), vocabulary()
		switch r.Intn(5) {
		case 0:
			tokens[n] = ""
		case 1:
			tokens[n] += " " + tokens[n]
		case 2:
			tokens = append(tokens[:n:n], "")
		default:
			tokens[n] = all[r.Intn(len(all))]
		}
	}
	return strings.Join(tokens, " ")
}

func TestWrongProgramsByChance(t *testing.T) {
	r := rand.New(rand.NewSource(5))
	for range 3000 {
		text, _ := written(r)
		wantByGrammar(t, changed(r, text))
		if t.Failed() {
			return
		}
	}
}

func TestRowsOfTokensByChance(t *testing.T) {
	r := rand.New(rand.NewSource(6))
	all := vocabulary()
	for range 20000 {
		text := "func f ( ) { " + []string{"", "print ", "x ", "if x { ", "f ( "}[r.Intn(5)]
		for range r.Intn(8) {
			text += all[r.Intn(len(all))] + " "
		}
		wantByGrammar(t, text)
		if t.Failed() {
			return
		}
	}
}

// No text makes Parse panic, and each has just one answer.
func TestAnyBytes(t *testing.T) {
	r := rand.New(rand.NewSource(7))
	parts := append(vocabulary(), " ", "\n", "#", "@", "&", "\x00", "é", "01", "12345678901234567890", "((((", "{{{", "----", "func f(){", "}", "while x {", "else if y {", "a[", "f(")
	for range 3000 {
		text := ""
		for range r.Intn(200) {
			text += parts[r.Intn(len(parts))]
		}
		p, at, e := syntax.Parse(text)
		if e == api.OK && (at != 0 || len(p.Funcs) == 0) || e != api.OK && (at < 0 || at > len(text)) {
			t.Fatalf("P1: Parse(%q): %d, %d", text, at, e)
		}
		if _, again, e2 := syntax.Parse(text); again != at || e2 != e {
			t.Fatalf("P7: Parse(%q): %d, %d, and then %d, %d", text, at, e, again, e2)
		}
	}
}
