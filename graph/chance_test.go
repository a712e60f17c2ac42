package graph_test

import (
	"math"
	"math/rand"
	"slices"
	"strings"
	"testing"

	"rewind/api"
	"rewind/check"
	"rewind/code"
	"rewind/flow"
	"rewind/graph"
	"rewind/lean"
	"rewind/mach"
	"rewind/make"
	"rewind/syntax"
	"rewind/world"
)

// pool: programs that others are mixed of.
var pool = []string{
	twelve,
	"func main() { var x = read; var y = read; while y != 0 { var z = x % y; x = y; y = z; } print x; main(); }",
	"func main() { var a[4]; var x = 0; while true { a[x] = read; print a[x] / x; x = x + 1; f(x, a[x]); } }\nfunc f(x, y) { var a[2]; if x < y { a[1] = y; f(x + 1, y - 1); return; } print a[x]; }",
	"func main() { var x = 3; f(x, 1); print g(x); }\nfunc f(x, y) { print x - y; if x == 0 { return; } f(x - 1, g(y)); }\nfunc g(x) int { var a[3]; var y = x; while y < 2 { y = y + 1; a[y] = x * y; } if y > 2 && x < 5 { return a[2] + a[1]; } }",
	"func main() { var b = true; var x = 9; while b || x > 2 { b = !b; x = x - f(x, 2); if b { continue; } print b; print -x; } }\nfunc f(x, y) int { if x > 8 { return g(x) / y; } return g(y); }\nfunc g(x) int { return x % 3 + 1; }",
	"func main() { print d(9) + d(read); print d(d(1)); none(); print d(none() - 3); }\nfunc d(n) int { return n - e(n - 1) % 5; }\nfunc e(n) int { if n < 1 { return n; } return d(n) + 2; }\nfunc none() int { }",
	"func main() { f(1, 2); }\nfunc f(x, y) { g(x); f(y, x + g(y)); }\nfunc g(x) int { if x > 30 { return x / (40 - x); } }",
	"func main() { a(20); b(3); }\nfunc a(n) { print n; if n % 3 != 0 && n < 60 { a(n + 1); } b(n - 1); }\nfunc b(n) { if n > 20 || n == 7 { a(n); } }",
	"func main() { var a[5]; var i = 0; while i < 5 { a[i] = read; i = i + 1; } var j = 0; while j < 4 { i = 0; while i < 4 - j { if a[i] > a[i + 1] { var x = a[i]; a[i] = a[i + 1]; a[i + 1] = x; } i = i + 1; } j = j + 1; } i = 0; while i < 5 { print a[i]; i = i + 1; } }",
}

// mixed: a text of which a statement or an expression comes from another one. It need not be a right program.
func mixed(r *rand.Rand, text, other string) string {
	p, _, _ := syntax.Parse(text)
	q, _, _ := syntax.Parse(other)
	at, by, ahead, behind := p.Stmts[r.Intn(len(p.Stmts))].Span, q.Stmts[r.Intn(len(q.Stmts))].Span, "", ""
	if r.Intn(2) == 0 {
		at, by, ahead, behind = p.Exprs[r.Intn(len(p.Exprs))].Span, q.Exprs[r.Intn(len(q.Exprs))].Span, "(", ")"
	}
	return text[:at.From] + ahead + other[by.From:by.To] + behind + text[at.To:]
}

// mixtures gives right programs that are mixed by chance, the same ones in every run.
func mixtures(t *testing.T, many int, use func(r *rand.Rand, text string)) {
	t.Helper()
	r, texts := rand.New(rand.NewSource(16)), slices.Clone(pool)
	for n := 0; n < many && !t.Failed(); {
		text := mixed(r, pool[r.Intn(len(pool))], texts[r.Intn(len(texts))])
		p, _, e := syntax.Parse(text)
		info, _, f := check.Check(p)
		_, g := make.Make(p, info)
		if e != api.OK || f != api.OK || g != api.OK || len(p.Exprs) < 6 || len(text) > 1200 {
			continue
		}
		n++
		texts = append(texts, text)
		use(r, text)
	}
}

func inputsByChance(r *rand.Rand) []int {
	var out []int
	for range r.Intn(20) {
		out = append(out, []int{0, 1, 2, 5, -1, math.MinInt, math.MaxInt, r.Intn(100)}[r.Intn(8)])
	}
	return out
}

// jumper writes programs of ifs, whiles and jumps by chance, whose ways hang on what is read, also in functions that their conditions call.
type jumper struct {
	r    *rand.Rand
	out  strings.Builder
	left int // how many statements more it writes
}

func (w *jumper) put(s string) { w.out.WriteString(s) }

func jumps(r *rand.Rand) string {
	w := &jumper{r: r}
	for n, head := range []string{"func main() ", "func f() int ", "func g(x, y) "} {
		w.left = r.Intn(20)
		w.put(head + "{ var a[3]; ")
		w.statements(head, false, 1)
		w.put([]string{"} ", "return a[1]; } ", "print x + y; } "}[n])
	}
	return w.out.String()
}

func (w *jumper) block(head string, inWhile bool, depth int) {
	w.put("{ ")
	w.statements(head, inWhile, depth)
	w.put("} ")
}

func (w *jumper) statements(head string, inWhile bool, depth int) {
	for w.left > 0 && w.r.Intn(5) > 0 {
		w.left--
		w.statement(head, inWhile, depth)
	}
}

func (w *jumper) condition() string {
	return []string{"read > 0 ", "read < 1 ", "read == f() ", "f() > 0 && a[read] < a[0] ", "a[1] == 0 ", "true "}[w.r.Intn(6)]
}

func (w *jumper) statement(head string, inWhile bool, depth int) {
	n := w.r.Intn(14)
	switch {
	case n < 5 && depth < 9:
		w.choice(head, inWhile, depth)
	case n < 7 && depth < 9:
		w.put("while " + w.condition())
		w.block(head, true, depth+1)
	case n < 10 && inWhile:
		w.put([]string{"break; ", "continue; "}[w.r.Intn(2)])
	case n == 10 && strings.HasSuffix(head, "int "):
		w.put("return read; ")
	case n == 10:
		w.put("return; ")
	default:
		w.put([]string{"print f(); ", "g(read, 1); ", "if read > 0 { } ", "a[read] = a[1] + f(); "}[w.r.Intn(4)])
	}
}

func (w *jumper) choice(head string, inWhile bool, depth int) {
	w.put("if " + w.condition())
	w.block(head, inWhile, depth+1)
	switch w.r.Intn(4) {
	case 0:
		w.put("else ")
		w.block(head, inWhile, depth+1)
	case 1:
		w.put("else ")
		w.choice(head, inWhile, depth+1)
	}
}

// record: what the words say of one.
type record struct {
	call, caller, stmt int
	reads              []graph.Read
}

// run: the records of a program in a world, and what they read, told by a machine that goes straight on.
func run(t *testing.T, c code.Code, w world.World) []record {
	t.Helper()
	m, e := mach.New(c, w)
	if e != api.OK {
		t.Fatal(e)
	}
	var out []record
	writers := map[mach.Spot]int{}
	for more := true; more; {
		more = m.Next()
		for _, x := range m.Touches() {
			writer, wrote := writers[x.Spot]
			if !wrote {
				writer = -1
			}
			if x.Write {
				writers[x.Spot] = x.Record
			} else {
				out[x.Record].reads = append(out[x.Record].reads, graph.Read{Spot: x.Spot, Writer: writer})
			}
		}
		if l := m.Frames(); len(l) > 0 {
			f, caller := l[len(l)-1], -1
			if len(l) > 1 {
				caller = l[len(l)-2].Record
			}
			out = append(out, record{call: f.Call, caller: caller, stmt: f.Stmt})
		}
	}
	return out
}

// reasons: of each record the one that let it run, by the words.
func reasons(l []record, f flow.Graph) []int {
	leans := lean.Of(f)
	ahead := map[int][]int{} // of each call its records
	var out []int
	for at, x := range l {
		own := append(ahead[x.call], at)
		ahead[x.call] = own
		by := x.caller
		for n := len(own) - 2; n >= 0 && by == x.caller; n-- {
			if choice, next := l[own[n]].stmt, l[own[n+1]].stmt; leansOnWay(leans[x.stmt], f, choice, next) {
				by = own[n]
			}
		}
		out = append(out, by)
	}
	return out
}

// leansOnWay: is a way of an if or a while that leads to a statement among some leans?
func leansOnWay(leans []lean.Lean, f flow.Graph, choice, next int) bool {
	for way, to := range f.Next[choice] {
		if len(f.Next[choice]) == 2 && to == next && slices.Contains(leans, lean.Lean{At: choice, Way: way}) {
			return true
		}
	}
	return false
}

// wantGround: what a graph says of a record.
func wantGround(t *testing.T, g *graph.Graph, at int, reads []graph.Read, by int) {
	t.Helper()
	if got, e := g.Reads(at); e != api.OK || !slices.Equal(got, reads) {
		t.Errorf("P16.1: Reads(%d) with the pace %d: %v, %d, want %v", at, g.Pace(), got, e, reads)
	}
	if got, e := g.By(at); e != api.OK || got != by {
		t.Errorf("P16.1: By(%d) with the pace %d: %d, %d, want %d", at, g.Pace(), got, e, by)
	}
}

func paceByChance(r *rand.Rand) int {
	return []int{1, 2, 3, 1 + r.Intn(20), 1 + r.Intn(400), 1000}[r.Intn(6)]
}

func roomByChance(r *rand.Rand) int { return []int{1, 1, 2, 3, 1 + r.Intn(20), 1000}[r.Intn(6)] }

// tally: what programs by chance had.
type tally struct {
	records int
	late    int // reads of what a later record wrote
	early   int
	called  int // records that a call let run
	chosen  int // records that an if or a while let run
	behind  int // those of them that came behind a call's end
	ends    map[api.Errno]int
}

func (x *tally) put(l []record, by []int) {
	x.records += len(l)
	for at, r := range l {
		for _, read := range r.reads {
			if read.Writer > at {
				x.late++
			} else if read.Writer >= 0 {
				x.early++
			}
		}
		switch {
		case by[at] >= 0 && l[by[at]].call == r.call:
			x.chosen++
			if l[at-1].call != l[by[at]].call {
				x.behind++
			}
		case by[at] >= 0:
			x.called++
		}
	}
}

// wantByTheWords: graphs of a program, with any pace and room, say of all records, asked in any order, what the words say.
func wantByTheWords(t *testing.T, r *rand.Rand, text string, w world.World, all *tally) {
	t.Helper()
	c, f := built(t, text)
	l := run(t, c, w)
	by := reasons(l, f)
	all.put(l, by)
	for range 3 {
		pace, room := paceByChance(r), roomByChance(r)
		g, e := graph.New(c, w, f, pace, room)
		if e != api.OK || g.Len() != len(l) || g.Pace() != pace {
			t.Fatalf("P16.1: New with the pace %d: %d, %d records, want %d", pace, e, g.Len(), len(l))
		}
		for _, at := range r.Perm(len(l)) {
			if r.Intn(20) == 0 {
				g.To(r.Intn(len(l) + 1))
			}
			was := g.At()
			wantGround(t, g, at, l[at].reads, by[at])
			if kept := g.Kept(); kept > room || kept > g.Made() {
				t.Errorf("P16.2: %d windows are kept, %d were made, the room is %d", kept, g.Made(), room)
			}
			if g.At() != was {
				t.Errorf("P7: what is asked of a graph brought its player from %d to %d", was, g.At())
			}
		}
		_, end := endOf(g)
		all.ends[end]++
		if t.Failed() {
			t.Fatalf("it is with the room %d and with %v of\n%s", room, w, text)
		}
	}
}

func endOf(g *graph.Graph) (bool, api.Errno) {
	g.End()
	return g.Here().Ended()
}

func TestMixturesByTheWords(t *testing.T) {
	all := tally{ends: map[api.Errno]int{}}
	mixtures(t, 2500, func(r *rand.Rand, text string) {
		wantByTheWords(t, r, text, world.World{Steps: r.Intn(200), Inputs: inputsByChance(r)}, &all)
	})
	for _, e := range []api.Errno{api.OK, api.ErrZero, api.ErrIndex, api.ErrInput, api.ErrStack, api.ErrSpent} {
		if all.ends[e] < 20 {
			t.Errorf("only %d programs end with %d: %v", all.ends[e], e, all.ends)
		}
	}
	if all.records < 30000 || all.late < 1000 || all.early < 30000 || all.called < 5000 || all.chosen < 5000 {
		t.Errorf("only these were among them: %+v", all)
	}
}

func TestJumpsByTheWords(t *testing.T) {
	all := tally{ends: map[api.Errno]int{}}
	r := rand.New(rand.NewSource(160))
	for range 1500 {
		var inputs []int
		for range r.Intn(300) {
			inputs = append(inputs, r.Intn(2))
		}
		wantByTheWords(t, r, jumps(r), world.World{Steps: r.Intn(300), Inputs: inputs}, &all)
	}
	if all.records < 30000 || all.late < 500 || all.called < 3000 || all.chosen < 10000 || all.behind < 300 {
		t.Errorf("only these were among them: %+v", all)
	}
}
