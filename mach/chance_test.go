package mach_test

import (
	"math"
	"math/rand"
	"slices"
	"strings"
	"testing"

	"rewind/api"
	"rewind/check"
	"rewind/mach"
	"rewind/make"
	"rewind/syntax"
	"rewind/world"
)

// stock: what programs are mixed of, beside the ordinary ones: most run into an error as soon as little of them is changed.
var stock = append([]string{
	"func main() { var x = read; var y = read; while y != 0 { var z = x % y; x = y; y = z; } print x; main(); }",
	"func main() { var a[4]; var x = 0; while true { a[x] = read; print a[x] / x; x = x + 1; f(x, a[x]); } }\nfunc f(x, y) { var a[2]; if x < y { a[1] = y; f(x + 1, y - 1); return; } print a[x]; }",
	"func main() { var x = 3; f(x, 1); print g(x); }\nfunc f(x, y) { print x - y; if x == 0 { return; } f(x - 1, g(y)); }\nfunc g(x) int { var a[3]; var y = x; while y < 2 { y = y + 1; a[y] = x * y; } if y > 2 && x < 5 { return a[2] + a[1]; } }",
	"func main() { var b = true; var x = 9; while b || x > 2 { b = !b; x = x - f(x, 2); if b { continue; } print b; print -x; } }\nfunc f(x, y) int { if x > 8 { return g(x) / y; } return g(y); }\nfunc g(x) int { return x % 3 + 1; }",
	"func main() { print f(0, read); print 1 - f(2, 3) * f(f(1, 1), 999999999999999999); }\nfunc f(x, y) int { var a[3]; a[0] = y; a[1] = y + x; a[2] = a[a[0] - y] * 3; if x < 3 { return f(x + 1, a[2]) - a[1]; } return a[x - 3]; }",
	"func main() { f(1, 2); }\nfunc f(x, y) { g(x); f(y, x + g(y)); }\nfunc g(x) int { if x > 30 { return x / (40 - x); } }",
	"func main() { print d(9) + d(read); print d(d(1)); }\nfunc d(n) int { return n - e(n - 1) % 5; }\nfunc e(n) int { if n < 1 { return n; } return d(n) + 2; }",
	"func main() { a(20); b(3); }\nfunc a(n) { print n; if n % 3 != 0 && n < 60 { a(n + 1); } b(n - 1); }\nfunc b(n) { if n > 20 || n == 7 { a(n); } }",
}, ordinary[1:]...)

// mixer makes programs of one another, which are the same in every run.
type mixer struct {
	r    *rand.Rand
	pool []string
}

func (x *mixer) pick(l ...string) string { return l[x.r.Intn(len(l))] }

// mix: a text of the pool, of which a statement, an expression or a sign is changed; what comes there is mostly of another text, or of its own. It need not be a right program.
func (x *mixer) mix() string {
	text := x.pick(x.pool...)
	other := x.pick(text, x.pick(x.pool...))
	p, _, _ := syntax.Parse(text)
	q, _, _ := syntax.Parse(other)
	switch x.r.Intn(6) {
	case 0, 1:
		at, by := p.Stmts[x.r.Intn(len(p.Stmts))].Span, q.Stmts[x.r.Intn(len(q.Stmts))].Span
		if x.r.Intn(2) == 0 {
			at.To = at.From
		}
		return put(text, at, cut(other, by))
	case 2:
		signs := strings.Fields("+ - * / % < <= > >= == != && ||")
		return strings.Replace(text, " "+x.pick(signs...)+" ", " "+x.pick(signs...)+" ", 1)
	}
	at, by := p.Exprs[x.r.Intn(len(p.Exprs))].Span, q.Exprs[x.r.Intn(len(q.Exprs))].Span
	return put(text, at, x.pick("("+cut(other, by)+")", x.pick("0", "1", "2", "7", "(-1)", "read", "999999999999999999", "true", "false")))
}

func cut(text string, s api.Span) string { return text[s.From:s.To] }

func put(text string, at api.Span, by string) string { return text[:at.From] + by + text[at.To:] }

// programs gives right programs that are mixed by chance.
func programs(t *testing.T, many int, seed int64, use func(text string, p api.Tree, info check.Info)) {
	t.Helper()
	for _, text := range stock {
		right(t, text)
	}
	x := &mixer{r: rand.New(rand.NewSource(seed)), pool: slices.Clone(stock)}
	for n := 0; n < many && !t.Failed(); {
		text := x.mix()
		p, _, e := syntax.Parse(text)
		info, _, f := check.Check(p)
		_, g := make.Make(p, info)
		if e != api.OK || f != api.OK || g != api.OK || len(p.Exprs) < 6 || len(text) > 1200 {
			continue
		}
		n++
		if len(x.pool) < 400 {
			x.pool = append(x.pool, text)
		} else {
			x.pool[len(stock)+x.r.Intn(len(x.pool)-len(stock))] = text
		}
		use(text, p, info)
	}
}

func inputsByChance(r *rand.Rand) []int {
	var out []int
	for range r.Intn(20) {
		out = append(out, []int{0, 1, 2, 5, -1, math.MinInt, math.MaxInt, r.Intn(100)}[r.Intn(8)])
	}
	return out
}

// Whatever a program is given, its machine tells just what the chapter says; so do copies, which are made at any time, and go on by themselves.
func TestProgramsByChance(t *testing.T) {
	r := rand.New(rand.NewSource(13))
	ends, nexts, lines := map[api.Errno]int{}, 0, 0
	programs(t, 3000, 130, func(text string, p api.Tree, info check.Info) {
		in := world.World{Steps: r.Intn(300), Inputs: inputsByChance(r)}
		w := told(p, info, in)
		m := machineOf(t, text, in, r.Intn(4) == 0)
		for range 2 {
			at := r.Intn(len(w.moments) + 1)
			for n := range at {
				if got := momentOf(m, m.Next()); got != w.moments[n] {
					t.Fatalf("P13.1: with %v, behind %d Nexts\n%s\ntells\n%.3000s\nwant\n%.3000s", in, n+1, text, got, w.moments[n])
				}
			}
			other := m.Copy()
			wantAsTold(t, text, w, m, at)
			wantAsTold(t, text, w, other.Copy(), at)
			wantAsTold(t, text, w, other, at)
			m = machineOf(t, text, in, false)
		}
		ends[w.now.end]++
		nexts += len(w.moments)
		lines += strings.Count(w.now.out, "\n")
	})
	for _, e := range []api.Errno{api.OK, api.ErrZero, api.ErrIndex, api.ErrInput, api.ErrStack, api.ErrSpent} {
		if ends[e] < 50 {
			t.Errorf("only %d programs end with %d: %v", ends[e], e, ends)
		}
	}
	if nexts < 100000 || lines < 5000 {
		t.Errorf("only %d Nexts, %d lines printed", nexts, lines)
	}
}

// Machines of one program, and copies of them, that go on by turns.
func TestMachinesByTurns(t *testing.T) {
	r := rand.New(rand.NewSource(31))
	programs(t, 600, 131, func(text string, p api.Tree, info check.Info) {
		in := world.World{Steps: 60 + r.Intn(60), Inputs: inputsByChance(r)}
		w := told(p, info, in)
		machines, at := []*mach.Machine{machineOf(t, text, in, false)}, []int{0}
		for range 200 {
			n := r.Intn(len(machines))
			if r.Intn(6) == 0 && len(machines) < 12 {
				machines, at = append(machines, machines[n].Copy()), append(at, at[n])
			}
			if at[n] == len(w.moments) {
				continue
			}
			if got := momentOf(machines[n], machines[n].Next()); got != w.moments[at[n]] {
				t.Fatalf("P13.1: with %v, %d machines, behind %d Nexts\n%s\ntells\n%.3000s\nwant\n%.3000s", in, len(machines), at[n]+1, text, got, w.moments[at[n]])
			}
			at[n]++
		}
	})
}
