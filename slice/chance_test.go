package slice_test

import (
	"math/rand"
	"slices"
	"strings"
	"testing"

	"rewind/api"
	"rewind/check"
	"rewind/make"
	"rewind/slice"
	"rewind/syntax"
	"rewind/world"
)

// pool: programs that others are mixed of.
var pool = []string{
	"func main() { var a[2]; var x = read; a[1] = f(x); if a[1] > 3 { print a[1]; } a[0] = f(a[1] - 9); if a[0] < 0 { print x; } }\nfunc f(n) int { n = n * 2; return n; }",
	"func main() { var x = read; var y = read; while y != 0 { var z = x % y; x = y; y = z; } print x; main(); }",
	"func main() { var a[4]; var x = 0; while true { a[x] = read; print a[x] / x; x = x + 1; f(x, a[x]); } }\nfunc f(x, y) { var a[2]; if x < y { a[1] = y; f(x + 1, y - 1); return; } print a[x]; }",
	"func main() { var x = 3; f(x, 1); print g(x); }\nfunc f(x, y) { print x - y; if x == 0 { return; } f(x - 1, g(y)); }\nfunc g(x) int { var a[3]; var y = x; while y < 2 { y = y + 1; a[y] = x * y; } if y > 2 && x < 5 { return a[2] + a[1]; } }",
	"func main() { var b = true; var x = 9; while b || x > 2 { b = !b; x = x - f(x, 2); if b { continue; } print b; print -x; } }\nfunc f(x, y) int { if x > 8 { return g(x) / y; } return g(y); }\nfunc g(x) int { return x % 3 + 1; }",
	"func main() { print d(9) + d(read); print d(d(1)); none(); print d(none() - 3); }\nfunc d(n) int { return n - e(n - 1) % 5; }\nfunc e(n) int { if n < 1 { return n; } return d(n) + 2; }\nfunc none() int { }",
	"func main() { var x = 0; while x < 9 { x = x + 1; if x == read { break; } else if x % 2 == 0 { continue; } else if x > 7 { return; } print x; } print x; }",
	"func main() { a(20); b(3); }\nfunc a(n) { print n; if n % 3 != 0 && n < 60 { a(n + 1); } b(n - 1); }\nfunc b(n) { if n > 20 || n == 7 { a(n); } }",
	"func main() { var a[5]; var i = 0; while i < 5 { a[i] = read; i = i + 1; } var j = 0; while j < 4 { i = 0; while i < 4 - j { if a[i] > a[i + 1] { var x = a[i]; a[i] = a[i + 1]; a[i + 1] = x; } i = i + 1; } j = j + 1; } i = 0; while i < 5 { print a[i]; i = i + 1; } }",
}

// mixed: a text of which a statement or an expression comes from another one. It need not be a right program.
func mixed(r *rand.Rand, text, other string) string {
	p, _, _ := syntax.Parse(text)
	q, _, _ := syntax.Parse(other)
	at, by, ahead, behind := p.Stmts[r.Intn(len(p.Stmts))].Span, q.Stmts[r.Intn(len(q.Stmts))].Span, "", ""
	if r.Intn(2) == 0 {
		at, by, ahead, behind = p.Exprs[r.Intn(len(p.Exprs))].Span, q.Exprs[r.Intn(len(q.Exprs))].Span, "(", ")"
	}
	return text[:at.From] + ahead + other[by.From:by.To] + behind + text[at.To:]
}

// mixtures gives right programs that are mixed by chance, the same ones in every run.
func mixtures(t *testing.T, many int, use func(r *rand.Rand, text string)) {
	t.Helper()
	r, texts := rand.New(rand.NewSource(17)), slices.Clone(pool)
	for n := 0; n < many && !t.Failed(); {
		text := mixed(r, pool[r.Intn(len(pool))], texts[r.Intn(len(texts))])
		p, _, e := syntax.Parse(text)
		info, _, f := check.Check(p)
		_, g := make.Make(p, info)
		if e != api.OK || f != api.OK || g != api.OK || len(p.Exprs) < 6 || len(text) > 1200 {
			continue
		}
		n++
		texts = append(texts, text)
		use(r, text)
	}
}

// writer writes programs by chance, whose ways hang on what is read, with many jumps. A statement that reads an input calls nothing.
type writer struct {
	r    *rand.Rand
	out  strings.Builder
	left int // how many statements more it writes
}

func (w *writer) put(s string) { w.out.WriteString(s) }

func (w *writer) one(of ...string) string { return of[w.r.Intn(len(of))] }

func written(r *rand.Rand) string {
	w := &writer{r: r}
	for _, head := range []string{"func main() ", "func f(x, y) int ", "func g(x, y) "} {
		w.left = r.Intn(8)
		w.put(head + "{ ")
		if strings.HasPrefix(head, "func main") {
			w.left = 4 + r.Intn(30)
			w.put("var x = read; var y = 0; ")
		}
		w.put("var a[2]; ")
		w.statements(head, false, 1)
		w.put(w.one("print x; ", "print y; ", "print a[1]; ", "print a[x]; ", "") + "} ")
	}
	return w.out.String()
}

func (w *writer) block(head string, inWhile bool, depth int) {
	w.put("{ ")
	w.statements(head, inWhile, depth)
	w.put("} ")
}

func (w *writer) statements(head string, inWhile bool, depth int) {
	for w.left > 0 && (depth == 1 || w.r.Intn(5) > 0) {
		w.left--
		w.statement(head, inWhile, depth)
	}
}

func (w *writer) condition() string {
	return w.one("read > 0 ", "read > 0 ", "read > 0 ", "read == 1 ", "read == 1 ", "x > 0 ", "x == y ", "a[1] < y ", "f(y, x) > 0 ", "true ")
}

func (w *writer) number() string {
	return w.one("read", "read + x", "x + 1", "y - x", "a[0]", "f(x, y)", "f(a[1], 1)", "1")
}

func (w *writer) statement(head string, inWhile bool, depth int) {
	n := w.r.Intn(18)
	switch {
	case n < 5 && depth < 9:
		w.choice(head, inWhile, depth)
	case n < 8 && depth < 9:
		w.put(w.one("while "+w.condition()+"{ ", "while x < 30 { x = x + 1; ", "while y < 9 { y = y + 1; "))
		w.statements(head, true, depth+1)
		w.put(w.one("x = x + 1; ", "y = y + x; ", "a[1] = a[1] + y; ", "") + "} ")
	case n < 12 && inWhile:
		w.put(w.one("break; ", "continue; "))
	case n == 12 && depth > 1 && strings.HasSuffix(head, "int "):
		w.put("return " + w.one("x", "y", "a[1]", "read") + "; ")
	case n == 12 && depth > 1:
		w.put("return; ")
	case n == 13:
		w.put(w.one("g(x, 1); ", "g(a[0], y); "))
	case n == 14:
		w.put("print " + w.number() + "; ")
	case n == 15 && depth < 9:
		w.put("if " + w.condition() + "{ var b = " + w.number() + "; ")
		w.statements(head, inWhile, depth+1)
		w.put(w.one("b = b + y; ", "") + w.one("x = b; ", "y = b; ", "a[1] = a[1] + b; ") + "} ")
	case n == 16:
		w.put("a[" + w.one("0", "1", "x") + "] = " + w.number() + "; ")
	default:
		w.put(w.one("x", "y") + " = " + w.number() + "; ")
	}
}

func (w *writer) choice(head string, inWhile bool, depth int) {
	w.put("if " + w.condition())
	w.block(head, inWhile, depth+1)
	switch w.r.Intn(4) {
	case 0:
		w.put("else ")
		w.block(head, inWhile, depth+1)
	case 1:
		w.put("else ")
		w.choice(head, inWhile, depth+1)
	}
}

func inputsByChance(r *rand.Rand) []int {
	var out []int
	for range r.Intn(200) {
		out = append(out, r.Intn(2)*(1+r.Intn(2)))
	}
	return out
}

func paceByChance(r *rand.Rand) int {
	return []int{1, 2, 3, 1 + r.Intn(20), 1 + r.Intn(400), 1000}[r.Intn(6)]
}

func roomByChance(r *rand.Rand) int { return []int{1, 1, 2, 3, 1 + r.Intn(20), 1000}[r.Intn(6)] }

// recordsByChance: some of a program, the last one among them.
func recordsByChance(r *rand.Rand, s slice.Source, many int) []int {
	n := len(s.Trace.Rows)
	if n == 0 {
		return nil
	}
	out := []int{n - 1}
	for range many {
		out = append(out, r.Intn(n))
	}
	return out
}

// tally: what slices by chance had.
type tally struct {
	slices, statements int
	whole              int // statements of their programs
	jumps              int
	jumpsLeft          int // jumps that ran, but aren't in the slice
	elseIfs            int
	ends               map[api.Errno]int
}

func (x *tally) put(s slice.Source, record int, l []int) {
	x.slices++
	x.statements += len(l)
	x.whole += len(s.Tree.Stmts)
	for at, stmt := range s.Tree.Stmts {
		isIn := slices.Contains(l, at)
		switch {
		case isJump(stmt) && isIn:
			x.jumps++
		case isJump(stmt) && s.Trace.Count(at, record+1) > 0:
			x.jumpsLeft++
		case isIn && len(stmt.Else) == 1 && s.Tree.Stmts[stmt.Else[0]].Kind == api.SIf:
			x.elseIfs++
		}
	}
}

// wantByTheWords: the slices of some records of a program are those that the words tell.
func wantByTheWords(t *testing.T, r *rand.Rand, text string, w world.World, all *tally) {
	t.Helper()
	s := sourced(t, text, w, paceByChance(r), roomByChance(r))
	words := wordsOf(t, s, w)
	all.ends[s.Trace.End]++
	for _, record := range recordsByChance(r, s, 3) {
		got := sliced(t, s, record)
		if want := words.slice(record); !slices.Equal(got, want) {
			t.Fatalf("P17.1: Of(%d): %d, want %d, with the pace %d and %v, of\n%s", record, got, want, s.Graph.Pace(), w, text)
		}
		wantRight(t, s, got)
		wantBlanked(t, s, got, slice.Text(s, got))
		all.put(s, record, got)
	}
}

func TestMixturesByTheWords(t *testing.T) {
	all := tally{ends: map[api.Errno]int{}}
	mixtures(t, 1500, func(r *rand.Rand, text string) {
		wantByTheWords(t, r, text, world.World{Steps: r.Intn(200), Inputs: inputsByChance(r)}, &all)
	})
	for _, e := range []api.Errno{api.OK, api.ErrZero, api.ErrIndex, api.ErrInput, api.ErrStack, api.ErrSpent} {
		if all.ends[e] < 20 {
			t.Errorf("only %d programs end with %d: %v", all.ends[e], e, all.ends)
		}
	}
	if all.slices < 5000 || all.statements < 20000 || all.statements*4 > all.whole*3 || all.jumps < 500 {
		t.Errorf("only these were among them: %+v", all)
	}
}

func TestJumpsByTheWords(t *testing.T) {
	all := tally{ends: map[api.Errno]int{}}
	r := rand.New(rand.NewSource(170))
	for range 2500 {
		wantByTheWords(t, r, written(r), world.World{Steps: r.Intn(300), Inputs: inputsByChance(r)}, &all)
	}
	if all.slices < 5000 || all.statements < 20000 || all.jumps < 500 || all.jumpsLeft < 500 || all.elseIfs < 300 {
		t.Errorf("only these were among them: %+v", all)
	}
}

// What is left of a program, in a world with the inputs that what is left took, begins just the records of what is left, up to the one whose slice it is.
func TestWhatIsLeftGoesTheSameWay(t *testing.T) {
	r := rand.New(rand.NewSource(1700))
	records := 0
	for range 1500 {
		w := world.World{Steps: 300, Inputs: inputsByChance(r)}
		s := sourced(t, written(r), w, 1000, 1000)
		for _, record := range recordsByChance(r, s, 2) {
			l := sliced(t, s, record)
			left := sourced(t, slice.Text(s, l), world.World{Steps: w.Steps, Inputs: inputsOf(s, l, w.Inputs)}, 1000, 1000)
			want := waysOf(s, record, l)
			got := waysOf(left, len(left.Trace.Rows)-1, nil)
			if got = got[:min(len(got), len(want))]; !slices.Equal(got, want) {
				t.Fatalf("what is left by the slice of the record %d begins statements at %d, want %d, of\n%s\nwhich was\n%s", record, got, want, left.Text, s.Text)
			}
			records += len(want)
		}
	}
	if records < 20000 {
		t.Errorf("only %d records", records)
	}
}

// inputsOf: those that some statements took.
func inputsOf(s slice.Source, l, inputs []int) []int {
	var out []int
	for record, row := range s.Trace.Rows {
		to := len(inputs)
		if record+1 < len(s.Trace.Rows) {
			to = s.Trace.Rows[record+1].Taken
		}
		if slices.Contains(l, row.Stmt) {
			out = append(out, inputs[row.Taken:to]...)
		}
	}
	return out
}

// waysOf: where the statements stand that begin, up to a record, but for those that aren't among some (nil: all).
func waysOf(s slice.Source, record int, among []int) []int {
	var out []int
	for _, row := range s.Trace.Rows[:record+1] {
		if among == nil || slices.Contains(among, row.Stmt) {
			out = append(out, s.Tree.Stmts[row.Stmt].Span.From)
		}
	}
	return out
}
