package print_test

import (
	"math/rand"
	"reflect"
	"runtime/debug"
	"slices"
	"strings"
	"testing"
	"unsafe"

	"rewind/api"
	"rewind/print"
)

const manyKinds = "func main(){var x=1;var a[3];x=a[x+1];a[0]=-(x+1)*2;if x<1{break;}else if(true){print read;}else{continue;x=2;}while !(x==1&&false||x>2){return;f(1,x);}}func f(a,b)int{if a{}else{if b{}return a-(b-1)-g(a,f(b,(a)),read);}}func g(a){}"

func wantPrinted(t *testing.T, p api.Tree, want string) {
	t.Helper()
	if got := print.Print(p); got != want {
		t.Errorf("P5.1: Print of %+v:\n%s, want\n%s", p, got, want)
	}
}

// moved: the same program, its statements and expressions at other places.
func moved(p api.Tree, exprs, stmts []int) api.Tree {
	one := func(to []int, at int) int {
		if at < 0 || at >= len(to) {
			return at
		}
		return to[at]
	}
	all := func(to, l []int) []int {
		var out []int
		for _, at := range l {
			out = append(out, to[at])
		}
		return out
	}
	out := api.Tree{Exprs: make([]api.Expr, len(p.Exprs)), Stmts: make([]api.Stmt, len(p.Stmts))}
	for at, x := range p.Exprs {
		x.A, x.B, x.List = one(exprs, x.A), one(exprs, x.B), all(exprs, x.List)
		out.Exprs[exprs[at]] = x
	}
	for at, s := range p.Stmts {
		s.A, s.B, s.Then, s.Else = one(exprs, s.A), one(exprs, s.B), all(stmts, s.Then), all(stmts, s.Else)
		out.Stmts[stmts[at]] = s
	}
	for _, f := range p.Funcs {
		f.Body = all(stmts, f.Body)
		out.Funcs = append(out.Funcs, f)
	}
	return out
}

func TestPlacesInAnyOrder(t *testing.T) {
	p := parsed(t, manyKinds)
	want := print.Print(p)
	r := rand.New(rand.NewSource(1))
	for range 50 {
		exprs, stmts := r.Perm(len(p.Exprs)), r.Perm(len(p.Stmts))
		q := moved(p, exprs, stmts)
		wantPrinted(t, q, want)
		for at := range p.Exprs {
			if got, want := print.Expr(q, exprs[at]), print.Expr(p, at); got != want {
				t.Errorf("P5.1: Expr: %q, want %q", got, want)
			}
		}
	}
}

func TestFunctionsInTheirOrder(t *testing.T) {
	p := parsed(t, "func a(){print 1;}func b(){print 2;}")
	p.Funcs[0], p.Funcs[1] = p.Funcs[1], p.Funcs[0]
	wantPrinted(t, p, "func b() {\n  print 2;\n}\nfunc a() {\n  print 1;\n}\n")
}

// wantElse: a program whose first statement is an if, which gets these statements as its Else.
func wantElse(t *testing.T, stmts string, list []int, want ...string) {
	t.Helper()
	p := parsed(t, "func f(){if x{}"+stmts+"}")
	p.Stmts[0].Else = list
	p.Funcs[0].Body = []int{0}
	wantPrinted(t, p, "func f() {\n"+strings.Join(append(want, "}"), "\n")+"\n")
}

func TestElseOfAnotherTree(t *testing.T) {
	wantElse(t, "if y{}", []int{1}, "  if x {", "  } else if y {", "  }")
	wantElse(t, "if y{}", []int{}, "  if x {", "  }")
	wantElse(t, "if y{}if z{}", []int{2}, "  if x {", "  } else if z {", "  }")
	wantElse(t, "if y{}if z{}", []int{2, 1}, "  if x {", "  } else {", "    if z {", "    }", "    if y {", "    }", "  }")
	wantElse(t, "if y{}break;", []int{1, 2}, "  if x {", "  } else {", "    if y {", "    }", "    break;", "  }")
	wantElse(t, "break;if y{}", []int{1, 2}, "  if x {", "  } else {", "    break;", "    if y {", "    }", "  }")
	wantElse(t, "break;", []int{1}, "  if x {", "  } else {", "    break;", "  }")
	wantElse(t, "while y{}", []int{1}, "  if x {", "  } else {", "    while y {", "    }", "  }")
}

// Only an if has an else; what no place leads to isn't there.
func TestWhatTheWordsDontSay(t *testing.T) {
	p := parsed(t, "func f(){while x{}y=1;print 1+2;}")
	p.Stmts[0].Else = []int{1}
	p.Funcs[0].Body = []int{0, 2}
	wantPrinted(t, p, "func f() {\n  while x {\n  }\n  print 1 + 2;\n}\n")
}

func TestPartsOfSeveral(t *testing.T) {
	p := api.Tree{
		Exprs: []api.Expr{
			{Kind: api.EPair, A: 1, Op: "-", B: 1},
			{Kind: api.EPair, A: 2, Op: "+", B: 2},
			{Kind: api.EName, Name: "x"},
			{Kind: api.ECall, Name: "f", List: []int{1, 0, 1}},
		},
		Stmts: []api.Stmt{{Kind: api.SPrint, A: 0}, {Kind: api.SIf, A: 2, Then: []int{0, 0}, Else: []int{2}}, {Kind: api.SIf, A: 2, Then: []int{0}}, {Kind: api.SCall, A: 3}},
		Funcs: []api.Func{{Name: "g", Type: api.Unit, Body: []int{1, 3, 0}}},
	}
	wantPrinted(t, p, "func g() {\n  if x {\n    print x + x - (x + x);\n    print x + x - (x + x);\n  } else if x {\n    print x + x - (x + x);\n  }\n  f(x + x, x + x - (x + x), x + x);\n  print x + x - (x + x);\n}\n")
}

// withSmallStack: what calls itself for each part of parts ends the test's run, if parts are as deep as here.
func withSmallStack(do func()) {
	defer debug.SetMaxStack(debug.SetMaxStack(1 << 20))
	do()
}

func TestDeepExpressions(t *testing.T) {
	const deep = 200000
	ways := []struct {
		of           api.Expr
		ahead, after string
	}{
		{api.Expr{Kind: api.EUnary, Op: "-"}, "-", ""},
		{api.Expr{Kind: api.EPair, Op: "+", B: deep}, "", " + x"},
		{api.Expr{Kind: api.EIndex, Name: "a"}, "a[", "]"},
		{api.Expr{Kind: api.ECall, Name: "f"}, "f(", ")"},
	}
	for _, way := range ways {
		var p api.Tree
		for n := range deep {
			way.of.A = n + 1
			if way.of.Kind == api.ECall {
				way.of.A, way.of.List = 0, []int{n + 1}
			}
			p.Exprs = append(p.Exprs, way.of)
		}
		p.Exprs = append(p.Exprs, api.Expr{Kind: api.EName, Name: "x"})
		withSmallStack(func() {
			if s := print.Expr(p, 0); s != strings.Repeat(way.ahead, deep)+"x"+strings.Repeat(way.after, deep) {
				t.Errorf("P5.1: Expr of %d expressions in one another: %.100q..", deep, s)
			}
		})
	}
}

func TestManyElseIfs(t *testing.T) {
	const deep = 100000
	p := api.Tree{Exprs: []api.Expr{{Kind: api.ETrue}}, Funcs: []api.Func{{Name: "f", Body: []int{0}}}}
	for n := range deep {
		p.Stmts = append(p.Stmts, api.Stmt{Kind: api.SIf, Else: []int{n + 1}})
	}
	p.Stmts = append(p.Stmts, api.Stmt{Kind: api.SIf})
	withSmallStack(func() {
		if s := print.Print(p); s != "func f() {\n  "+strings.Repeat("if true {\n  } else ", deep)+"if true {\n  }\n}\n" {
			t.Errorf("P5.1: Print of %d ifs behind else: %.200q..", deep, s)
		}
	})
}

func TestBlocksDeepInBlocks(t *testing.T) {
	const deep = 500
	want, p := "", api.Tree{Exprs: []api.Expr{{Kind: api.ETrue}}, Funcs: []api.Func{{Name: "f", Body: []int{0}}}}
	for n := range deep {
		p.Stmts = append(p.Stmts, api.Stmt{Kind: api.SWhile, Then: []int{n + 1}})
		want += strings.Repeat(" ", 2*n+2) + "while true {\n"
	}
	p.Stmts = append(p.Stmts, api.Stmt{Kind: api.SBreak})
	want += strings.Repeat(" ", 2*deep+2) + "break;\n"
	for n := range deep {
		want += strings.Repeat(" ", 2*(deep-n)) + "}\n"
	}
	wantPrinted(t, p, "func f() {\n"+want+"}\n")
}

// spacious: a list in memory of its own, with spare room in which something stands.
func spacious[T any](l []T, x T) []T {
	out := append(make([]T, 0, len(l)+2), l...)
	copy(out[len(l):cap(out)], []T{x, x})
	return out
}

// all: each list of a program with its spare room.
func all(p api.Tree) api.Tree {
	out := api.Tree{Exprs: slices.Clone(p.Exprs[:cap(p.Exprs)]), Stmts: slices.Clone(p.Stmts[:cap(p.Stmts)]), Funcs: slices.Clone(p.Funcs[:cap(p.Funcs)])}
	for i, x := range out.Exprs {
		out.Exprs[i].List = slices.Clone(x.List[:cap(x.List)])
	}
	for i, s := range out.Stmts {
		out.Stmts[i].Then, out.Stmts[i].Else = slices.Clone(s.Then[:cap(s.Then)]), slices.Clone(s.Else[:cap(s.Else)])
	}
	for i, f := range out.Funcs {
		out.Funcs[i].Params, out.Funcs[i].Body = slices.Clone(f.Params[:cap(f.Params)]), slices.Clone(f.Body[:cap(f.Body)])
	}
	return out
}

func TestWhatIsHandedInStays(t *testing.T) {
	p := parsed(t, manyKinds)
	want := print.Print(p)
	for i, x := range p.Exprs {
		p.Exprs[i].List = spacious(x.List, 0)
	}
	for i, s := range p.Stmts {
		p.Stmts[i].Then, p.Stmts[i].Else = spacious(s.Then, 0), spacious(s.Else, 0)
	}
	for i, f := range p.Funcs {
		p.Funcs[i].Params, p.Funcs[i].Body = spacious(f.Params, "spare"), spacious(f.Body, 0)
	}
	p.Exprs, p.Stmts, p.Funcs = spacious(p.Exprs, api.Expr{Kind: api.ERead}), spacious(p.Stmts, api.Stmt{Kind: api.SBreak}), spacious(p.Funcs, api.Func{Name: "spare"})
	was := all(p)
	for range 2 {
		wantPrinted(t, p, want)
		for at := range p.Exprs {
			print.Expr(p, at)
		}
		if !reflect.DeepEqual(all(p), was) {
			t.Fatal("P7: the program that was handed in was changed")
		}
	}
}

func TestAnswersAreNewMemory(t *testing.T) {
	p := parsed(t, "func f() { print name; }")
	name := strings.Clone("name")
	p.Exprs[0].Name = name
	if s := print.Expr(p, 0); s != name || unsafe.StringData(s) == unsafe.StringData(name) {
		t.Errorf("P7: Expr: %q, which shares memory with the program's name", s)
	}
}
