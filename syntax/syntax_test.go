package syntax_test

import (
	"reflect"
	"strconv"
	"strings"
	"testing"

	"rewind/api"
	"rewind/syntax"
)

func span(from, to int) api.Span { return api.Span{From: from, To: to} }

func shifted(s api.Span, by int) api.Span { return span(s.From+by, s.To+by) }

func copied[T any](l []T) []T { return append([]T(nil), l...) }

// plain: a program in memory of its own, whose empty lists are nil, which means the same.
func plain(p api.Tree) api.Tree {
	var out api.Tree
	for _, x := range p.Exprs {
		x.List = copied(x.List)
		out.Exprs = append(out.Exprs, x)
	}
	for _, s := range p.Stmts {
		s.Then, s.Else = copied(s.Then), copied(s.Else)
		out.Stmts = append(out.Stmts, s)
	}
	for _, f := range p.Funcs {
		f.Params, f.Body = copied(f.Params), copied(f.Body)
		out.Funcs = append(out.Funcs, f)
	}
	return out
}

func wantTree(t *testing.T, text string, want api.Tree) {
	t.Helper()
	p, at, e := syntax.Parse(text)
	if e != api.OK || at != 0 {
		t.Errorf("P4.1: Parse(%.200q): %d, %d, want 0, 0", text, at, e)
	} else if got := plain(p); !reflect.DeepEqual(got, plain(want)) {
		t.Errorf("P4.1: Parse(%.2000q):\n%+v, want\n%+v", text, got, want)
	}
}

func wantRight(t *testing.T, text string) api.Tree {
	t.Helper()
	p, at, e := syntax.Parse(text)
	if e != api.OK || at != 0 {
		t.Fatalf("P4.1: Parse(%.200q): %d, %d, want 0, 0", text, at, e)
	}
	return p
}

// wantBody: the program of one function that has these statements; spans count from the body's first byte.
func wantBody(t *testing.T, body string, exprs []api.Expr, stmts []api.Stmt, list ...int) {
	t.Helper()
	const ahead = "func f(){"
	var want api.Tree
	for _, x := range exprs {
		x.Span = shifted(x.Span, len(ahead))
		want.Exprs = append(want.Exprs, x)
	}
	for _, s := range stmts {
		s.Span = shifted(s.Span, len(ahead))
		want.Stmts = append(want.Stmts, s)
	}
	text := ahead + body + "}"
	want.Funcs = []api.Func{{Name: "f", Span: span(0, len(text)), Type: api.Unit, Body: list}}
	wantTree(t, text, want)
}

// wantExprs: what is put of an expression, which itself is put last; spans count from its first byte.
func wantExprs(t *testing.T, source string, exprs ...api.Expr) {
	t.Helper()
	const ahead = "print "
	for i := range exprs {
		exprs[i].Span = shifted(exprs[i].Span, len(ahead))
	}
	body := ahead + source + ";"
	wantBody(t, body, exprs, []api.Stmt{{Kind: api.SPrint, A: len(exprs) - 1, Span: span(0, len(body))}}, 0)
}

func num(n, from, to int) api.Expr {
	return api.Expr{Kind: api.ENum, Num: n, Span: span(from, to)}
}

func name(s string, from int) api.Expr {
	return api.Expr{Kind: api.EName, Name: s, Span: span(from, from+len(s))}
}

func TestExpressionsOfOneToken(t *testing.T) {
	for _, n := range []int{0, 1, 7, 10, 1234567890, 999999999999999999} {
		s := strconv.Itoa(n)
		wantExprs(t, s, num(n, 0, len(s)))
	}
	wantExprs(t, "true", api.Expr{Kind: api.ETrue, Span: span(0, 4)})
	wantExprs(t, "false", api.Expr{Kind: api.EFalse, Span: span(0, 5)})
	wantExprs(t, "read", api.Expr{Kind: api.ERead, Span: span(0, 4)})
	for _, s := range []string{"x", "_1", "main", "trues", "Read", "f"} {
		wantExprs(t, s, name(s, 0))
	}
}

func TestIndex(t *testing.T) {
	wantExprs(t, "a[7]", num(7, 2, 3), api.Expr{Kind: api.EIndex, Name: "a", A: 0, Span: span(0, 4)})
	wantExprs(t, "a [ b[x] ]", name("x", 6), api.Expr{Kind: api.EIndex, Name: "b", A: 0, Span: span(4, 8)}, api.Expr{Kind: api.EIndex, Name: "a", A: 1, Span: span(0, 10)})
}

func TestCall(t *testing.T) {
	wantExprs(t, "f()", api.Expr{Kind: api.ECall, Name: "f", Span: span(0, 3)})
	wantExprs(t, "f ( )", api.Expr{Kind: api.ECall, Name: "f", Span: span(0, 5)})
	wantExprs(t, "f(x)", name("x", 2), api.Expr{Kind: api.ECall, Name: "f", List: []int{0}, Span: span(0, 4)})
	wantExprs(t, "f(1,y,(2))", num(1, 2, 3), name("y", 4), num(2, 7, 8), api.Expr{Kind: api.ECall, Name: "f", List: []int{0, 1, 2}, Span: span(0, 10)})
	wantExprs(t, "f(x,g(y),z)", name("x", 2), name("y", 6), api.Expr{Kind: api.ECall, Name: "g", List: []int{1}, Span: span(4, 8)}, name("z", 9), api.Expr{Kind: api.ECall, Name: "f", List: []int{0, 2, 3}, Span: span(0, 11)})
}

func TestUnary(t *testing.T) {
	for _, op := range []string{"-", "!"} {
		wantExprs(t, op+"x", name("x", 1), api.Expr{Kind: api.EUnary, Op: op, A: 0, Span: span(0, 2)})
		wantExprs(t, op+" ( 5 )", num(5, 4, 5), api.Expr{Kind: api.EUnary, Op: op, A: 0, Span: span(0, 7)})
	}
	wantExprs(t, "-!-x", name("x", 3), api.Expr{Kind: api.EUnary, Op: "-", A: 0, Span: span(2, 4)}, api.Expr{Kind: api.EUnary, Op: "!", A: 1, Span: span(1, 4)}, api.Expr{Kind: api.EUnary, Op: "-", A: 2, Span: span(0, 4)})
	wantExprs(t, "-1", num(1, 1, 2), api.Expr{Kind: api.EUnary, Op: "-", A: 0, Span: span(0, 2)})
}

func TestPair(t *testing.T) {
	for _, op := range allOps() {
		n := len(op)
		wantExprs(t, "x "+op+" 1", name("x", 0), num(1, 3+n, 4+n), api.Expr{Kind: api.EPair, A: 0, Op: op, B: 1, Span: span(0, 4+n)})
		wantExprs(t, "1"+op+"x", num(1, 0, 1), name("x", 1+n), api.Expr{Kind: api.EPair, A: 0, Op: op, B: 1, Span: span(0, 2+n)})
	}
}

func TestExample(t *testing.T) {
	wantTree(t, "func main() { print 1 + 2 * 3; }", api.Tree{
		Exprs: []api.Expr{
			num(1, 20, 21), num(2, 24, 25), num(3, 28, 29),
			{Kind: api.EPair, A: 1, Op: "*", B: 2, Span: span(24, 29)},
			{Kind: api.EPair, A: 0, Op: "+", B: 3, Span: span(20, 29)},
		},
		Stmts: []api.Stmt{{Kind: api.SPrint, A: 4, Span: span(14, 30)}},
		Funcs: []api.Func{{Name: "main", Type: api.Unit, Body: []int{0}, Span: span(0, 32)}},
	})
}

// Brackets around a part of a pair, or behind a sign, are the whole's, not the part's.
func TestSpansOfWhatHasBrackets(t *testing.T) {
	wantExprs(t, "(1)", num(1, 1, 2))
	wantExprs(t, "( (x) )", name("x", 3))
	wantExprs(t, "(1)+(2)", num(1, 1, 2), num(2, 5, 6), api.Expr{Kind: api.EPair, A: 0, Op: "+", B: 1, Span: span(0, 7)})
	wantExprs(t, "((1+2))*3", num(1, 2, 3), num(2, 4, 5), api.Expr{Kind: api.EPair, A: 0, Op: "+", B: 1, Span: span(2, 5)}, num(3, 8, 9), api.Expr{Kind: api.EPair, A: 2, Op: "*", B: 3, Span: span(0, 9)})
	wantExprs(t, "(1)-2-(3)", num(1, 1, 2), num(2, 4, 5), api.Expr{Kind: api.EPair, A: 0, Op: "-", B: 1, Span: span(0, 5)}, num(3, 7, 8), api.Expr{Kind: api.EPair, A: 2, Op: "-", B: 3, Span: span(0, 9)})
	wantExprs(t, "(a[(1)])", num(1, 4, 5), api.Expr{Kind: api.EIndex, Name: "a", A: 0, Span: span(1, 7)})
	wantExprs(t, "f((x))", name("x", 3), api.Expr{Kind: api.ECall, Name: "f", List: []int{0}, Span: span(0, 6)})
	wantExprs(t, "(1)<(2)", num(1, 1, 2), num(2, 5, 6), api.Expr{Kind: api.EPair, A: 0, Op: "<", B: 1, Span: span(0, 7)})
}

func TestSpansWithBlanksAndComments(t *testing.T) {
	wantExprs(t, "# (\n x# y\n\t+\r\n#\n1 # ;\n", name("x", 5), num(1, 16, 17), api.Expr{Kind: api.EPair, A: 0, Op: "+", B: 1, Span: span(5, 17)})
	wantBody(t, " # a\n x # =\n = 1 # ;\n ; # b\n", []api.Expr{num(1, 15, 16)}, []api.Stmt{{Kind: api.SSet, Name: "x", A: 0, Span: span(6, 23)}}, 0)
	text := "# a\n func f ( # b\n ) { # }\n } # c\n# d"
	wantTree(t, text, api.Tree{Funcs: []api.Func{{Name: "f", Type: api.Unit, Span: span(5, strings.Index(text, "} # c")+1)}}})
}

// The loosest first.
func opLevels() [][]string {
	return [][]string{{"||"}, {"&&"}, {"==", "!=", "<", "<=", ">", ">="}, {"+", "-"}, {"*", "/", "%"}}
}

const comparisons = 2

func allOps() []string {
	var out []string
	for _, l := range opLevels() {
		out = append(out, l...)
	}
	return out
}

// shape: an expression's text with brackets around each pair and each sign's.
func shape(p api.Tree, at int) string {
	x := p.Exprs[at]
	switch x.Kind {
	case api.ENum:
		return strconv.Itoa(x.Num)
	case api.EUnary:
		return "(" + x.Op + shape(p, x.A) + ")"
	case api.EPair:
		return "(" + shape(p, x.A) + x.Op + shape(p, x.B) + ")"
	case api.EIndex:
		return x.Name + "[" + shape(p, x.A) + "]"
	case api.ECall:
		var l []string
		for _, a := range x.List {
			l = append(l, shape(p, a))
		}
		return x.Name + "(" + strings.Join(l, ",") + ")"
	}
	return x.Name
}

func wantShape(t *testing.T, source, want string) {
	t.Helper()
	p := wantRight(t, "func f() { print "+source+"; }")
	if got := shape(p, p.Stmts[0].A); got != want {
		t.Errorf("P4.1: %s is %s, want %s", source, got, want)
	}
}

func TestTwoPairs(t *testing.T) {
	for n, l := range opLevels() {
		for m, k := range opLevels() {
			for _, first := range l {
				for _, second := range k {
					source := "x" + first + "y" + second + "z"
					switch {
					case n == comparisons && m == comparisons:
						wantFault(t, "func f() { print x"+first+"y@"+second+"z; }", api.ErrParse)
					case m > n:
						wantShape(t, source, "(x"+first+"(y"+second+"z))")
					default:
						wantShape(t, source, "((x"+first+"y)"+second+"z)")
					}
				}
			}
		}
	}
}

func TestShapes(t *testing.T) {
	for source, want := range map[string]string{
		"a||b||c||d":             "(((a||b)||c)||d)",
		"a&&b&&c&&d":             "(((a&&b)&&c)&&d)",
		"a-b+c-d":                "(((a-b)+c)-d)",
		"a/b*c%d":                "(((a/b)*c)%d)",
		"a-(b-c)":                "(a-(b-c))",
		"a*(b+c)":                "(a*(b+c))",
		"(a||b)&&c":              "((a||b)&&c)",
		"a||b&&c<d+e*f":          "(a||(b&&(c<(d+(e*f)))))",
		"a*b+c<d&&e||f":          "(((((a*b)+c)<d)&&e)||f)",
		"a*b<c*d":                "((a*b)<(c*d))",
		"a+b==c-d&&e!=f":         "(((a+b)==(c-d))&&(e!=f))",
		"a<b&&c<d||e<f&&g<h":     "(((a<b)&&(c<d))||((e<f)&&(g<h)))",
		"(a<b)<c":                "((a<b)<c)",
		"a<(b<c)":                "(a<(b<c))",
		"(a==b)!=(c>=d)":         "((a==b)!=(c>=d))",
		"-a*b":                   "((-a)*b)",
		"a*-b":                   "(a*(-b))",
		"a- -b":                  "(a-(-b))",
		"a--b":                   "(a-(-b))",
		"-a[1]":                  "(-a[1])",
		"-f(x)":                  "(-f(x))",
		"!a==b":                  "((!a)==b)",
		"!(a==b)":                "(!(a==b))",
		"!a&&!b":                 "((!a)&&(!b))",
		"-(a+b)*c":               "((-(a+b))*c)",
		"a[b+c]*d":               "(a[(b+c)]*d)",
		"a[b||c]":                "a[(b||c)]",
		"f(a||b,c+d,-e)":         "f((a||b),(c+d),(-e))",
		"f(g(),h(1)+2)":          "f(g(),(h(1)+2))",
		"((((a))))":              "a",
		"((a)+((b)))":            "(a+b)",
		"a==b&&c==d":             "((a==b)&&(c==d))",
		"a<b||c>d":               "((a<b)||(c>d))",
		"f()":                    "f()",
		"f(a[0],(b),c)":          "f(a[0],b,c)",
		"a %b/ c *d-e+ f":        "(((((a%b)/c)*d)-e)+f)",
		"1 - 2 * 3 - 4 / 5 == 6": "(((1-(2*3))-(4/5))==6)",
	} {
		wantShape(t, source, want)
	}
}

func TestSetAndVar(t *testing.T) {
	wantBody(t, "x=1;", []api.Expr{num(1, 2, 3)}, []api.Stmt{{Kind: api.SSet, Name: "x", A: 0, Span: span(0, 4)}}, 0)
	wantBody(t, "var x=y;", []api.Expr{name("y", 6)}, []api.Stmt{{Kind: api.SVar, Name: "x", A: 0, Span: span(0, 8)}}, 0)
	wantBody(t, "x=1;y=(2);", []api.Expr{num(1, 2, 3), num(2, 7, 8)}, []api.Stmt{
		{Kind: api.SSet, Name: "x", A: 0, Span: span(0, 4)},
		{Kind: api.SSet, Name: "y", A: 1, Span: span(4, 10)},
	}, 0, 1)
}

func TestArray(t *testing.T) {
	wantBody(t, "var a[12];", nil, []api.Stmt{{Kind: api.SArray, Name: "a", Num: 12, Span: span(0, 10)}}, 0)
	// How many it may have is for chapter 6 to say.
	wantBody(t, "var a[0];", nil, []api.Stmt{{Kind: api.SArray, Name: "a", Span: span(0, 9)}}, 0)
	wantBody(t, "var a[999999999999999999];", nil, []api.Stmt{{Kind: api.SArray, Name: "a", Num: 999999999999999999, Span: span(0, 26)}}, 0)
}

func TestPut(t *testing.T) {
	wantBody(t, "a[1]=x;", []api.Expr{num(1, 2, 3), name("x", 5)}, []api.Stmt{{Kind: api.SPut, Name: "a", A: 0, B: 1, Span: span(0, 7)}}, 0)
	wantBody(t, "a[b[2]]=b[3];", []api.Expr{
		num(2, 4, 5), {Kind: api.EIndex, Name: "b", A: 0, Span: span(2, 6)},
		num(3, 10, 11), {Kind: api.EIndex, Name: "b", A: 2, Span: span(8, 12)},
	}, []api.Stmt{{Kind: api.SPut, Name: "a", A: 1, B: 3, Span: span(0, 13)}}, 0)
}

func TestJumps(t *testing.T) {
	// Where a jump leads is for chapter 6 to look at.
	wantBody(t, "break;continue ;", nil, []api.Stmt{
		{Kind: api.SBreak, Span: span(0, 6)},
		{Kind: api.SContinue, Span: span(6, 16)},
	}, 0, 1)
}

func TestReturn(t *testing.T) {
	wantBody(t, "return;", nil, []api.Stmt{{Kind: api.SReturn, A: -1, Span: span(0, 7)}}, 0)
	wantBody(t, "return 5;", []api.Expr{num(5, 7, 8)}, []api.Stmt{{Kind: api.SReturn, A: 0, Span: span(0, 9)}}, 0)
	wantBody(t, "print x;return(y);", []api.Expr{name("x", 6), name("y", 15)}, []api.Stmt{
		{Kind: api.SPrint, A: 0, Span: span(0, 8)},
		{Kind: api.SReturn, A: 1, Span: span(8, 18)},
	}, 0, 1)
}

func TestCallAsStatement(t *testing.T) {
	wantBody(t, "g();", []api.Expr{{Kind: api.ECall, Name: "g", Span: span(0, 3)}}, []api.Stmt{{Kind: api.SCall, A: 0, Span: span(0, 4)}}, 0)
	wantBody(t, "g(1 ) ;", []api.Expr{num(1, 2, 3), {Kind: api.ECall, Name: "g", List: []int{0}, Span: span(0, 5)}}, []api.Stmt{{Kind: api.SCall, A: 1, Span: span(0, 7)}}, 0)
	wantBody(t, "g(x,2);", []api.Expr{name("x", 2), num(2, 4, 5), {Kind: api.ECall, Name: "g", List: []int{0, 1}, Span: span(0, 6)}}, []api.Stmt{{Kind: api.SCall, A: 2, Span: span(0, 7)}}, 0)
}

func TestIf(t *testing.T) {
	wantBody(t, "if x{}", []api.Expr{name("x", 3)}, []api.Stmt{{Kind: api.SIf, A: 0, Span: span(0, 6)}}, 0)
	wantBody(t, "if x{}else{}", []api.Expr{name("x", 3)}, []api.Stmt{{Kind: api.SIf, A: 0, Span: span(0, 12)}}, 0)
	wantBody(t, "if x{break;}", []api.Expr{name("x", 3)}, []api.Stmt{
		{Kind: api.SBreak, Span: span(5, 11)},
		{Kind: api.SIf, A: 0, Then: []int{0}, Span: span(0, 12)},
	}, 1)
	wantBody(t, "if x{}else{break;}", []api.Expr{name("x", 3)}, []api.Stmt{
		{Kind: api.SBreak, Span: span(11, 17)},
		{Kind: api.SIf, A: 0, Else: []int{0}, Span: span(0, 18)},
	}, 1)
	wantBody(t, "if x{break;y=z;}else{continue;return;}break;", []api.Expr{name("x", 3), name("z", 13)}, []api.Stmt{
		{Kind: api.SBreak, Span: span(5, 11)},
		{Kind: api.SSet, Name: "y", A: 1, Span: span(11, 15)},
		{Kind: api.SContinue, Span: span(21, 30)},
		{Kind: api.SReturn, A: -1, Span: span(30, 37)},
		{Kind: api.SIf, A: 0, Then: []int{0, 1}, Else: []int{2, 3}, Span: span(0, 38)},
		{Kind: api.SBreak, Span: span(38, 44)},
	}, 4, 5)
}

func TestIfBehindElse(t *testing.T) {
	wantBody(t, "if x{}else if y{}", []api.Expr{name("x", 3), name("y", 14)}, []api.Stmt{
		{Kind: api.SIf, A: 1, Span: span(11, 17)},
		{Kind: api.SIf, A: 0, Else: []int{0}, Span: span(0, 17)},
	}, 1)
	wantBody(t, "if x{break;}else if y{break;}else if z{}else{break;}", []api.Expr{name("x", 3), name("y", 20), name("z", 37)}, []api.Stmt{
		{Kind: api.SBreak, Span: span(5, 11)},
		{Kind: api.SBreak, Span: span(22, 28)},
		{Kind: api.SBreak, Span: span(45, 51)},
		{Kind: api.SIf, A: 2, Else: []int{2}, Span: span(34, 52)},
		{Kind: api.SIf, A: 1, Then: []int{1}, Else: []int{3}, Span: span(17, 52)},
		{Kind: api.SIf, A: 0, Then: []int{0}, Else: []int{4}, Span: span(0, 52)},
	}, 5)
	// But for spans it is the same as one alone in a block.
	wantBody(t, "if x{}else{if y{}}", []api.Expr{name("x", 3), name("y", 14)}, []api.Stmt{
		{Kind: api.SIf, A: 1, Span: span(11, 17)},
		{Kind: api.SIf, A: 0, Else: []int{0}, Span: span(0, 18)},
	}, 1)
}

func TestWhile(t *testing.T) {
	wantBody(t, "while x{}", []api.Expr{name("x", 6)}, []api.Stmt{{Kind: api.SWhile, A: 0, Span: span(0, 9)}}, 0)
	wantBody(t, "while x{break;while y{}}break;", []api.Expr{name("x", 6), name("y", 20)}, []api.Stmt{
		{Kind: api.SBreak, Span: span(8, 14)},
		{Kind: api.SWhile, A: 1, Span: span(14, 23)},
		{Kind: api.SWhile, A: 0, Then: []int{0, 1}, Span: span(0, 24)},
		{Kind: api.SBreak, Span: span(24, 30)},
	}, 2, 3)
}

func TestFunctions(t *testing.T) {
	for text, want := range map[string]api.Func{
		"func f(){}":                {Name: "f", Type: api.Unit},
		"func main() { }":           {Name: "main", Type: api.Unit},
		"func f()int{}":             {Name: "f", Type: api.Int},
		"func f(a){}":               {Name: "f", Type: api.Unit, Params: []string{"a"}},
		"func f(a,bc) { }":          {Name: "f", Type: api.Unit, Params: []string{"a", "bc"}},
		"func g(c, b, a) int { }":   {Name: "g", Type: api.Int, Params: []string{"c", "b", "a"}},
		"func f(f, f, main) { }":    {Name: "f", Type: api.Unit, Params: []string{"f", "f", "main"}},
		"func f ( ints ) int { }":   {Name: "f", Type: api.Int, Params: []string{"ints"}},
		"func int1(int2) int { \n}": {Name: "int1", Type: api.Int, Params: []string{"int2"}},
	} {
		want.Span = span(0, len(text))
		wantTree(t, text, api.Tree{Funcs: []api.Func{want}})
		want.Span = shifted(want.Span, 2)
		wantTree(t, "\n "+text+" #\n", api.Tree{Funcs: []api.Func{want}})
	}
}

func TestSeveralFunctions(t *testing.T) {
	wantTree(t, "func f(){break;x=1;}func g(a)int{return a;}func f(){}", api.Tree{
		Exprs: []api.Expr{num(1, 17, 18), name("a", 40)},
		Stmts: []api.Stmt{
			{Kind: api.SBreak, Span: span(9, 15)},
			{Kind: api.SSet, Name: "x", A: 0, Span: span(15, 19)},
			{Kind: api.SReturn, A: 1, Span: span(33, 42)},
		},
		Funcs: []api.Func{
			{Name: "f", Type: api.Unit, Body: []int{0, 1}, Span: span(0, 20)},
			{Name: "g", Params: []string{"a"}, Type: api.Int, Body: []int{2}, Span: span(20, 43)},
			{Name: "f", Type: api.Unit, Span: span(43, 53)},
		},
	})
}
