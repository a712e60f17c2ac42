package print_test

import (
	"math/rand"
	"reflect"
	"slices"
	"strings"
	"testing"

	"rewind/api"
	"rewind/print"
	"rewind/syntax"
	"rewind/token"
)

// ways has for each thing of chapter 4 the ways to write it, one that ends soon first.
func ways() map[string][]string {
	return map[string][]string{
		"program":   {"function", "function program"},
		"function":  {"func name ( ) block", "func name ( name ) int block", "func name ( name , name , name ) block", "func name ( ) int block"},
		"block":     {"{ }", "{ statement }", "{ statement statement }", "{ choice }", "{ statement statement statement }"},
		"statement": {"break ;", "continue ;", "return ;", "return ( or ) ;", "return or ;", "var name = or ;", "var name [ number ] ;", "name = or ;", "name [ or ] = or ;", "print or ;", "name arguments ;", "while or block", "choice", "choice"},
		"choice":    {"if or block", "if or block else block", "if or block else choice", "if or block else { choice }"},
		"arguments": {"( )", "( or )", "( or , or )", "( or , or , or )"},
		"or":        {"and", "and", "and", "or || and"},
		"and":       {"compared", "compared", "compared", "and && compared"},
		"compared":  {"sum", "sum", "sum == sum", "sum < sum", "sum >= sum"},
		"sum":       {"product", "product", "product", "sum + product", "sum - product"},
		"product":   {"part", "part", "part", "product * part", "product / part", "product % part"},
		"part":      {"name", "number", "true", "read", "false", "- part", "! part", "name [ or ]", "name arguments", "( or )", "( or )", "( or )"},
		"name":      {"x", "y1", "main", "_"},
		"number":    {"0", "1", "64", "999999999999999999"},
	}
}

// writer writes programs by chance, which are the same in every run.
type writer struct {
	ways map[string][]string
	r    *rand.Rand
	left int // how many more things are written in any other way than the first
}

func (w *writer) write(out []string, thing string) []string {
	l, ok := w.ways[thing]
	if !ok {
		return append(out, thing)
	}
	way := l[0]
	if w.left > 0 {
		way = l[w.r.Intn(len(l))]
	}
	w.left--
	for _, s := range strings.Fields(way) {
		out = w.write(out, s)
	}
	return out
}

func byChance(r *rand.Rand) string {
	w := &writer{ways: ways(), r: r, left: r.Intn(1000)}
	return strings.Join(w.write(nil, "program"), " ")
}

// spanless: a program without its spans, whose empty lists are nil.
func spanless(p api.Tree) api.Tree {
	var out api.Tree
	for _, x := range p.Exprs {
		x.Span, x.List = api.Span{}, append([]int(nil), x.List...)
		out.Exprs = append(out.Exprs, x)
	}
	for _, s := range p.Stmts {
		s.Span, s.Then, s.Else = api.Span{}, append([]int(nil), s.Then...), append([]int(nil), s.Else...)
		out.Stmts = append(out.Stmts, s)
	}
	for _, f := range p.Funcs {
		f.Span, f.Params, f.Body = api.Span{}, append([]string(nil), f.Params...), append([]int(nil), f.Body...)
		out.Funcs = append(out.Funcs, f)
	}
	return out
}

// wantAgain: a program that is printed and parsed is as it was, and printed again it is the same.
func wantAgain(t *testing.T, text string) string {
	t.Helper()
	p := parsed(t, text)
	s := print.Print(p)
	q := parsed(t, s)
	if !reflect.DeepEqual(spanless(q), spanless(p)) {
		t.Errorf("P5.2: %q is another program, printed\n%s", text, s)
	}
	if again := print.Print(q); again != s {
		t.Errorf("P5.2: %q printed again is\n%s, and was\n%s", text, again, s)
	}
	return s
}

func TestProgramsPrintedAgain(t *testing.T) {
	wantAgain(t, manyKinds)
	wantAgain(t, "func f(){if x{}else{}if y{}else{if z{}}if w{}else{if a{}if b{}}}")
	for _, n := range []int{60, 61, 62} {
		wantAgain(t, "func f(){print "+strings.Repeat("-", n)+"x;print "+strings.Repeat("(", n)+"1"+strings.Repeat("+1)", n)+";print "+strings.Repeat("(1-", n)+"1"+strings.Repeat(")", n)+";}")
		wantAgain(t, "func f(){"+strings.Repeat("while x{", n)+"print(1);"+strings.Repeat("}", n)+"}")
		wantAgain(t, "func f(){"+strings.Repeat("if x{}else{", n)+strings.Repeat("}", n)+"}")
		wantAgain(t, "func f(){if x{}"+strings.Repeat("else if x{}", n)+"}")
	}
	wantAgain(t, "func f(){print 1"+strings.Repeat("+1", 4000)+";}")
	wantAgain(t, strings.Repeat("func f(){}", 32))
	wantAgain(t, "func f(){"+strings.Repeat("f();", 1000)+"}")
}

func TestProgramsByChance(t *testing.T) {
	r := rand.New(rand.NewSource(5))
	brackets := 0
	for n := 0; n < 600 && !t.Failed(); {
		text := byChance(r)
		p, _, e := syntax.Parse(text)
		if e != api.OK || len(print.Print(p)) > api.MaxText {
			continue
		}
		n++
		s := wantAgain(t, text)
		wantLaid(t, s)
		brackets += len(wantFewBrackets(t, s))
	}
	if brackets < 600 {
		t.Errorf("programs by chance have only %d brackets", brackets)
	}
}

// wantLaid: the text is its tokens, laid by rules that look at nothing else.
func wantLaid(t *testing.T, s string) {
	t.Helper()
	l, _, _ := token.All(s)
	texts := token.Text(s, l)
	out, before, blocks := "", "", 0
	unary := false
	for i, x := range texts[:len(texts)-1] {
		if x == "}" {
			blocks--
		}
		switch {
		case strings.HasSuffix(out, "\n"):
			out += strings.Repeat("  ", blocks)
		case i > 0 && isApart(before, x, unary):
			out += " "
		}
		// A - or ! is a pair's sign just behind what an expression ends with.
		unary = (x == "-" || x == "!") && !endsExpression(l[max(i-1, 0)], before)
		out, before = out+x, x
		if x == "{" {
			blocks++
		}
		if x == ";" || x == "{" || x == "}" && texts[i+1] != "else" {
			out += "\n"
		}
	}
	if out != s {
		t.Errorf("P5.1: Print:\n%s, want\n%s", s, out)
	}
}

func endsExpression(x api.Token, s string) bool {
	return x.Kind == api.Name || x.Kind == api.Number || slices.Contains([]string{"]", ")", "true", "false", "read"}, s)
}

// isApart: does a blank stand between two tokens of a line? Unary: is the first a - or ! that has no part ahead?
func isApart(a, b string, unary bool) bool {
	switch {
	case unary || a == "(" || a == "[":
		return false
	case slices.Contains([]string{")", "]", "[", ";", ","}, b):
		return false
	case b == "(":
		return !isName(a)
	}
	return true
}

func isName(s string) bool {
	x, _ := token.Next(s, 0)
	return x.Kind == api.Name
}

// wantFewBrackets: without any of the brackets around parts of pairs it would be another program; it tells where they stand.
func wantFewBrackets(t *testing.T, s string) []int {
	t.Helper()
	var out []int
	was := spanless(parsed(t, s))
	for at := range s {
		if s[at] != '(' || isLetter(s[at-1]) {
			continue
		}
		out = append(out, at)
		to := behindBracket(s, at)
		bare := s[:at] + s[at+1:to-1] + s[to:]
		if p, _, e := syntax.Parse(bare); e == api.OK && reflect.DeepEqual(spanless(p), was) {
			t.Errorf("P5.1: the brackets at %d and %d aren't needed:\n%s", at, to-1, s)
		}
	}
	return out
}

func isLetter(b byte) bool {
	return b == '_' || '0' <= b && b <= '9' || 'a' <= b && b <= 'z'
}

// behindBracket: the place behind the bracket that closes the one at a place.
func behindBracket(s string, at int) int {
	for open := 0; ; at++ {
		switch s[at] {
		case '(':
			open++
		case ')':
			if open--; open == 0 {
				return at + 1
			}
		}
	}
}
