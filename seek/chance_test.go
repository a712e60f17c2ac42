package seek_test

import (
	"math"
	"math/rand"
	"slices"
	"testing"

	"rewind/api"
	"rewind/check"
	"rewind/code"
	"rewind/make"
	"rewind/seek"
	"rewind/syntax"
	"rewind/world"
)

// pool: programs that others are mixed of.
var pool = []string{
	twelve,
	"func main() { var x = read; var y = read; while y != 0 { var z = x % y; x = y; y = z; } print x; main(); }",
	"func main() { var a[4]; var x = 0; while true { a[x] = read; print a[x] / x; x = x + 1; f(x, a[x]); } }\nfunc f(x, y) { var a[2]; if x < y { a[1] = y; f(x + 1, y - 1); return; } print a[x]; }",
	"func main() { var x = 3; f(x, 1); print g(x); }\nfunc f(x, y) { print x - y; if x == 0 { return; } f(x - 1, g(y)); }\nfunc g(x) int { var a[3]; var y = x; while y < 2 { y = y + 1; a[y] = x * y; } if y > 2 && x < 5 { return a[2] + a[1]; } }",
	"func main() { var b = true; var x = 9; while b || x > 2 { b = !b; x = x - f(x, 2); if b { continue; } print b; print -x; } }\nfunc f(x, y) int { if x > 8 { return g(x) / y; } return g(y); }\nfunc g(x) int { return x % 3 + 1; }",
	"func main() { print d(9) + d(read); print d(d(1)); none(); print d(none() - 3); }\nfunc d(n) int { return n - e(n - 1) % 5; }\nfunc e(n) int { if n < 1 { return n; } return d(n) + 2; }\nfunc none() int { }",
	"func main() { f(1, 2); }\nfunc f(x, y) { g(x); f(y, x + g(y)); }\nfunc g(x) int { if x > 30 { return x / (40 - x); } }",
	"func main() { a(20); b(3); }\nfunc a(n) { print n; if n % 3 != 0 && n < 60 { a(n + 1); } b(n - 1); }\nfunc b(n) { if n > 20 || n == 7 { a(n); } }",
	"func main() { var a[5]; var i = 0; while i < 5 { a[i] = read; i = i + 1; } var j = 0; while j < 4 { i = 0; while i < 4 - j { if a[i] > a[i + 1] { var x = a[i]; a[i] = a[i + 1]; a[i + 1] = x; } i = i + 1; } j = j + 1; } i = 0; while i < 5 { print a[i]; i = i + 1; } }",
}

// mixed: a text of which a statement or an expression comes from another one. It need not be a right program.
func mixed(r *rand.Rand, text, other string) string {
	p, _, _ := syntax.Parse(text)
	q, _, _ := syntax.Parse(other)
	at, by, ahead, behind := p.Stmts[r.Intn(len(p.Stmts))].Span, q.Stmts[r.Intn(len(q.Stmts))].Span, "", ""
	if r.Intn(2) == 0 {
		at, by, ahead, behind = p.Exprs[r.Intn(len(p.Exprs))].Span, q.Exprs[r.Intn(len(q.Exprs))].Span, "(", ")"
	}
	return text[:at.From] + ahead + other[by.From:by.To] + behind + text[at.To:]
}

// programs gives right programs that are mixed by chance, the same ones in every run.
func programs(t *testing.T, many int, use func(r *rand.Rand, text string, c code.Code)) {
	t.Helper()
	r, texts := rand.New(rand.NewSource(15)), slices.Clone(pool)
	for n := 0; n < many && !t.Failed(); {
		text := mixed(r, texts[r.Intn(len(texts))], texts[r.Intn(len(texts))])
		p, _, e := syntax.Parse(text)
		info, _, f := check.Check(p)
		c, g := make.Make(p, info)
		if e != api.OK || f != api.OK || g != api.OK || len(p.Exprs) < 6 || len(text) > 1200 {
			continue
		}
		n++
		texts = append(texts, text)
		use(r, text, c)
	}
}

func inputsByChance(r *rand.Rand) []int {
	var out []int
	for range r.Intn(20) {
		out = append(out, []int{0, 1, 2, 5, -1, math.MinInt, math.MaxInt, r.Intn(100)}[r.Intn(8)])
	}
	return out
}

func paceByChance(r *rand.Rand) int {
	return []int{1, 2, 3, 1 + r.Intn(20), 1 + r.Intn(400), 1000}[r.Intn(6)]
}

// model: what the chapter says of a player: where it is, and how far it ever got.
type model struct {
	want    []string // at each record, and at the end
	at, far int
}

func (m model) end() int { return len(m.want) - 1 }

// knows: has it been at the end?
func (m model) knows() bool { return m.far == m.end() }

func (m model) shots(pace int) int {
	if m.end() == 0 {
		return 0
	}
	return min(m.far, m.end()-1)/pace + 1
}

// to does a To, and holds it against the model.
func (m *model) to(t *testing.T, p *seek.Player, record int) {
	t.Helper()
	if record >= 0 && record <= m.end() {
		most := math.MaxInt
		if record <= m.far {
			most = p.Pace() - 1
		}
		if record == m.at {
			most = 0
		}
		wantTo(t, p, record, most, m.want)
		m.at, m.far = record, max(m.far, record)
		return
	}
	before := p.Cost()
	e := p.To(record)
	cost := p.Cost() - before
	if e != api.ErrRange || (record < 0 || m.knows()) && cost != 0 {
		t.Errorf("P15.3: To(%d) of %d records: %d, and costs %d", record, m.end(), e, cost)
	}
	wantAt(t, p, m.at, m.want)
	if record > m.end() {
		m.far = m.end()
	}
}

// toEnd does an End, and holds it against the model.
func (m *model) toEnd(t *testing.T, p *seek.Player) {
	t.Helper()
	before := p.Cost()
	n := p.End()
	if cost := p.Cost() - before; n != m.end() || m.knows() && cost != 0 {
		t.Errorf("P15.4: End: %d, and costs %d, of %d records", n, cost, m.end())
	}
	m.at, m.far = m.end(), m.end()
	wantAt(t, p, m.at, m.want)
}

// step does what chance tells.
func (m *model) step(t *testing.T, r *rand.Rand, p *seek.Player) {
	t.Helper()
	switch r.Intn(12) {
	case 0:
		m.toEnd(t, p)
	case 1:
		m.to(t, p, m.end()+r.Intn(3))
	case 2:
		m.to(t, p, []int{-1, -2, math.MinInt, math.MaxInt, api.MaxSteps, 0}[r.Intn(6)])
	case 3, 4, 5:
		m.to(t, p, m.at+r.Intn(7)-3)
	case 6:
		m.to(t, p, r.Intn(m.end()+1)/p.Pace()*p.Pace())
	case 7:
		m.to(t, p, m.far-r.Intn(3))
	default:
		m.to(t, p, r.Intn(m.end()+1))
	}
	if got := p.Shots(); got != m.shots(p.Pace()) || got > m.end()/p.Pace()+1 {
		t.Errorf("P15.2: who got to %d of %d, with the pace %d, has %d shots, want %d", m.far, m.end(), p.Pace(), got, m.shots(p.Pace()))
	}
}

func TestWaysByChance(t *testing.T) {
	ends, records, most := map[api.Errno]int{}, 0, 0
	programs(t, 1200, func(r *rand.Rand, text string, c code.Code) {
		w := world.World{Steps: r.Intn(200), Inputs: inputsByChance(r)}
		m := model{want: places(t, c, w)}
		for range 3 {
			m.at, m.far = 0, 0
			pace := paceByChance(r)
			p, e := seek.New(c, w, pace)
			if e != api.OK || p.Pace() != pace {
				t.Fatalf("P15.1: New with the pace %d: %d", pace, e)
			}
			for range 25 {
				m.step(t, r, p)
			}
			if t.Failed() {
				t.Fatalf("it is with %v of\n%s", w, text)
			}
			p.End()
			_, end := p.Here().Ended()
			ends[end]++
			most = max(most, m.end())
		}
		records += m.end()
	})
	for _, e := range []api.Errno{api.OK, api.ErrZero, api.ErrIndex, api.ErrInput, api.ErrStack, api.ErrSpent} {
		if ends[e] < 20 {
			t.Errorf("only %d players end with %d: %v", ends[e], e, ends)
		}
	}
	if records < 30000 || most < 190 {
		t.Errorf("only %d records, %d of one program", records, most)
	}
}

// A new player's End and New together, and what each To costs behind it.
func TestCostsByChance(t *testing.T) {
	programs(t, 300, func(r *rand.Rand, text string, c code.Code) {
		w := world.World{Steps: r.Intn(300), Inputs: inputsByChance(r)}
		want := places(t, c, w)
		pace := paceByChance(r)
		p, _ := seek.New(c, w, pace)
		if n := p.End(); n != len(want)-1 || p.Cost() != n+1 {
			t.Errorf("P15.4: with %v New and End cost %d, want %d, of\n%s", w, p.Cost(), n+1, text)
		}
		for range 20 {
			record := r.Intn(len(want))
			wantTo(t, p, record, pace-1, want)
			wantTo(t, p, record, 0, want)
		}
		wantEnd(t, p, 0, want)
	})
}

// Players of the same code and world with any paces, that went any ways, are in the same place if they are at the same record.
func TestNeitherPaceNorWay(t *testing.T) {
	programs(t, 150, func(r *rand.Rand, text string, c code.Code) {
		w := world.World{Steps: 120, Inputs: inputsByChance(r)}
		var row []*seek.Player
		for _, pace := range []int{1, 2, 7, 1000} {
			p, _ := seek.New(c, w, pace)
			row = append(row, p)
		}
		n := row[0].End()
		for range 10 {
			record := r.Intn(n + 1)
			for _, p := range row {
				for range r.Intn(3) {
					p.To(r.Intn(n + 5))
				}
				p.To(record)
				if got, want := told(p.Here()), told(row[0].Here()); got != want {
					t.Fatalf("P15.1: at %d, with the pace %d, a machine of\n%s\ntells\n%s\nwith the pace 1\n%s", record, p.Pace(), text, got, want)
				}
			}
		}
	})
}
