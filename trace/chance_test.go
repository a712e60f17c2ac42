package trace_test

import (
	"math"
	"math/rand"
	"reflect"
	"slices"
	"strings"
	"testing"

	"rewind/api"
	"rewind/check"
	"rewind/code"
	"rewind/mach"
	"rewind/make"
	"rewind/syntax"
	"rewind/trace"
	"rewind/world"
)

// pool: programs that others are mixed of.
var pool = []string{
	loop,
	"func main() { var x = read; var y = read; while y != 0 { var z = x % y; x = y; y = z; } print x; main(); }",
	"func main() { var a[4]; var x = 0; while true { a[x] = read; print a[x] / x; x = x + 1; f(x, a[x]); } }\nfunc f(x, y) { var a[2]; if x < y { a[1] = y; f(x + 1, y - 1); return; } print a[x]; }",
	"func main() { var x = 3; f(x, 1); print g(x); }\nfunc f(x, y) { print x - y; if x == 0 { return; } f(x - 1, g(y)); }\nfunc g(x) int { var a[3]; var y = x; while y < 2 { y = y + 1; a[y] = x * y; } if y > 2 && x < 5 { return a[2] + a[1]; } }",
	"func main() { var b = true; var x = 9; while b || x > 2 { b = !b; x = x - f(x, 2); if b { continue; } print b; print -x; } }\nfunc f(x, y) int { if x > 8 { return g(x) / y; } return g(y); }\nfunc g(x) int { return x % 3 + 1; }",
	"func main() { print d(9) + d(read); print d(d(1)); none(); print d(none() - 3); }\nfunc d(n) int { return n - e(n - 1) % 5; }\nfunc e(n) int { if n < 1 { return n; } return d(n) + 2; }\nfunc none() int { }",
	"func main() { f(1, 2); }\nfunc f(x, y) { g(x); f(y, x + g(y)); }\nfunc g(x) int { if x > 30 { return x / (40 - x); } }",
	"func main() { a(20); b(3); }\nfunc a(n) { print n; if n % 3 != 0 && n < 60 { a(n + 1); } b(n - 1); }\nfunc b(n) { if n > 20 || n == 7 { a(n); } }",
	"func main() { var a[5]; var i = 0; while i < 5 { a[i] = read; i = i + 1; } var j = 0; while j < 4 { i = 0; while i < 4 - j { if a[i] > a[i + 1] { var x = a[i]; a[i] = a[i + 1]; a[i + 1] = x; } i = i + 1; } j = j + 1; } i = 0; while i < 5 { print a[i]; i = i + 1; } }",
}

// mixed: a text of which a statement or an expression comes from another one. It need not be a right program.
func mixed(r *rand.Rand, text, other string) string {
	p, _, _ := syntax.Parse(text)
	q, _, _ := syntax.Parse(other)
	at, by, ahead, behind := p.Stmts[r.Intn(len(p.Stmts))].Span, q.Stmts[r.Intn(len(q.Stmts))].Span, "", ""
	if r.Intn(2) == 0 {
		at, by, ahead, behind = p.Exprs[r.Intn(len(p.Exprs))].Span, q.Exprs[r.Intn(len(q.Exprs))].Span, "(", ")"
	}
	return text[:at.From] + ahead + other[by.From:by.To] + behind + text[at.To:]
}

// programs gives right programs that are mixed by chance, the same ones in every run.
func programs(t *testing.T, many int, use func(r *rand.Rand, text string, c code.Code)) {
	t.Helper()
	r, texts := rand.New(rand.NewSource(14)), slices.Clone(pool)
	for n := 0; n < many && !t.Failed(); {
		text := mixed(r, texts[r.Intn(len(texts))], texts[r.Intn(len(texts))])
		p, _, e := syntax.Parse(text)
		info, _, f := check.Check(p)
		c, g := make.Make(p, info)
		if e != api.OK || f != api.OK || g != api.OK || len(p.Exprs) < 6 || len(text) > 1200 {
			continue
		}
		n++
		texts = append(texts, text)
		use(r, text, c)
	}
}

func inputsByChance(r *rand.Rand) []int {
	var out []int
	for range r.Intn(20) {
		out = append(out, []int{0, 1, 2, 5, -1, math.MinInt, math.MaxInt, r.Intn(100)}[r.Intn(8)])
	}
	return out
}

// wanted: the chapter's words of a machine: its frames as each record begins, and its touches, all in one row.
func wanted(t *testing.T, c code.Code, w world.World) (trace.Trace, []mach.Touch) {
	t.Helper()
	m, e := mach.New(c, w)
	if e != api.OK {
		t.Fatal(e)
	}
	var out trace.Trace
	var all []mach.Touch
	for m.Next() {
		all = append(all, m.Touches()...)
		l := m.Frames()
		f := l[len(l)-1]
		if f.Record != len(out.Rows) {
			t.Fatalf("the record %d begins behind %d", f.Record, len(out.Rows))
		}
		out.Rows = append(out.Rows, trace.Row{Stmt: f.Stmt, Call: f.Call, Func: f.Func, Depth: len(l), Out: len(m.Out()), Taken: m.Taken()})
	}
	all = append(all, m.Touches()...)
	for record := range out.Rows {
		out.Rows[record].Reads = spotsOf(all, record, false)
		out.Rows[record].Writes = spotsOf(all, record, true)
	}
	_, out.End = m.Ended()
	out.Out = m.Out()
	return out, all
}

func spotsOf(l []mach.Touch, record int, write bool) []mach.Spot {
	var out []mach.Spot
	for _, x := range l {
		if x.Record == record && x.Write == write {
			out = append(out, x.Spot)
		}
	}
	return out
}

func TestProgramsByChance(t *testing.T) {
	ends, records, deepest := map[api.Errno]int{}, 0, 0
	programs(t, 2500, func(r *rand.Rand, text string, c code.Code) {
		w := world.World{Steps: r.Intn(300), Inputs: inputsByChance(r)}
		want, all := wanted(t, c, w)
		got, e := trace.Of(c, w)
		if e != api.OK || !reflect.DeepEqual(got, want) {
			t.Fatalf("P14.1: %v\n%s\nhas the trace\n%.3000v\n%d, want\n%.3000v", w, text, got, e, want)
		}
		for range 30 {
			wantAnswers(t, r, text, got, all)
		}
		ends[got.End]++
		records += len(got.Rows)
		for _, x := range got.Rows {
			deepest = max(deepest, x.Depth)
		}
	})
	for _, e := range []api.Errno{api.OK, api.ErrZero, api.ErrIndex, api.ErrInput, api.ErrStack, api.ErrSpent} {
		if ends[e] < 20 {
			t.Errorf("only %d programs end with %d: %v", ends[e], e, ends)
		}
	}
	if records < 50000 || deepest != api.MaxCalls {
		t.Errorf("only %d records, %d calls in one another", records, deepest)
	}
}

// wantAnswers: what a trace says of a statement, and of a spot, that are chosen by chance, against all rows, and all touches.
func wantAnswers(t *testing.T, r *rand.Rand, text string, tr trace.Trace, all []mach.Touch) {
	t.Helper()
	stmt, before := r.Intn(30), r.Intn(len(tr.Rows)+5)-2
	s := mach.Spot{Call: r.Intn(3), Slot: r.Intn(4) - 1, Place: r.Intn(4) - 1}
	if len(all) > 0 && r.Intn(2) == 0 {
		s = all[r.Intn(len(all))].Spot
	}
	var records []int
	for record, x := range tr.Rows {
		if x.Stmt == stmt {
			records = append(records, record)
		}
	}
	count, last := 0, -1
	for n, record := range records {
		if got := tr.Nth(stmt, n); got != record {
			t.Fatalf("P14.1: Nth(%d, %d) is %d, want %d, of\n%s", stmt, n, got, record, text)
		}
		if record < before {
			count++
		}
	}
	for _, x := range all {
		if x.Write && x.Spot == s && x.Record < before {
			last = max(last, x.Record)
		}
	}
	if a, b, c := tr.Count(stmt, before), tr.Nth(stmt, len(records)), tr.Last(s, before); a != count || b != -1 || c != last {
		t.Fatalf("P14.1: Count(%d, %d) is %d, Nth(%d, %d) %d, Last(%v, %d) %d, want %d, -1, %d, of\n%s", stmt, before, a, stmt, len(records), b, s, before, c, count, last, text)
	}
}

// The same code and world have the same trace; another world's is another one.
func TestTheSameEachTime(t *testing.T) {
	programs(t, 60, func(r *rand.Rand, text string, c code.Code) {
		w := world.World{Steps: 150, Inputs: inputsByChance(r)}
		want, _ := trace.Of(c, w)
		trace.Of(c, world.World{Steps: 20})
		if got, _ := trace.Of(c, w); !reflect.DeepEqual(got, want) {
			t.Errorf("P7: two traces of\n%s\nare\n%.3000v\n%.3000v", text, got, want)
		}
	})
}

// A program's trace in fewer steps is the beginning of its trace, but for what its last record does behind the step that isn't left.
func TestFewerSteps(t *testing.T) {
	whole := traced(t, loop, 99, 0)
	for steps := range len(whole.Rows) {
		tr := traced(t, loop, steps, 0)
		if len(tr.Rows) != steps || tr.End != api.ErrSpent || !strings.HasPrefix(whole.Out, tr.Out) {
			t.Errorf("P14.1: with %d steps %d rows, the end %d, the output %q", steps, len(tr.Rows), tr.End, tr.Out)
		}
		for record, x := range tr.Rows {
			y := whole.Rows[record]
			if !slices.Equal(x.Reads, y.Reads[:len(x.Reads)]) || !slices.Equal(x.Writes, y.Writes[:len(x.Writes)]) {
				t.Errorf("P14.1: with %d steps the row of the record %d is %v, want a beginning of %v", steps, record, x, y)
			}
			x.Reads, x.Writes, y.Reads, y.Writes = nil, nil, nil, nil
			if !reflect.DeepEqual(x, y) {
				t.Errorf("P14.1: with %d steps the row of the record %d is %v, want %v", steps, record, x, y)
			}
		}
	}
}
