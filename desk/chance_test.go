package desk_test

import (
	"fmt"
	"math"
	"math/rand"
	"reflect"
	"slices"
	"strconv"
	"strings"
	"testing"

	"rewind/api"
	"rewind/check"
	"rewind/desk"
	"rewind/make"
	"rewind/syntax"
	"rewind/world"
)

// pool: programs that others are mixed of.
var pool = []string{
	turns, nested,
	"func main() { var a[2]; var x = read; a[1] = f(x); if a[1] > 3 { print a[1]; } a[0] = f(a[1] - 9); if a[0] < 0 { print x; } }\nfunc f(n) int { n = n * 2; return n; }",
	"func main() { var x = read; var y = read; while y != 0 { var z = x % y; x = y; y = z; } print x; main(); }",
	"func main() { var a[4]; var x = 0; while true { a[x] = read; print a[x] / x; x = x + 1; f(x, a[x]); } }\nfunc f(x, y) { var a[2]; if x < y { a[1] = y; f(x + 1, y - 1); return; } print a[x]; }",
	"func main() { var x = 3; f(x, 1); print g(x); }\nfunc f(x, y) { print x - y; if x == 0 { return; } f(x - 1, g(y)); }\nfunc g(x) int { var a[3]; var y = x; while y < 2 { y = y + 1; a[y] = x * y; } if y > 2 && x < 5 { return a[2] + a[1]; } }",
	"func main() { var b = true; var x = 9; while b || x > 2 { b = !b; x = x - f(x, 2); if b { var x = 7; b = x > 6; continue; } print b; print -x; } }\nfunc f(x, y) int { if x > 8 { var a = g(x); { } return a / y; } return g(y); }\nfunc g(x) int { return x % 3 + 1; }",
	"func main() { print d(9) + d(read); print d(d(1)); none(); print d(none() - 3); }\nfunc d(n) int { return n - e(n - 1) % 5; }\nfunc e(n) int { if n < 1 { return n; } return d(n) + 2; }\nfunc none() int { }",
	"func main() { a(20); b(3); }\nfunc a(n) { print n; if n % 3 != 0 && n < 60 { a(n + 1); } b(n - 1); }\nfunc b(n) { if n > 20 || n == 7 { a(n); } }",
	"func main() { var a[5]; var i = 0; while i < 5 { a[i] = read; i = i + 1; } var j = 0; while j < 4 { i = 0; while i < 4 - j { if a[i] > a[i + 1] { var x = a[i]; a[i] = a[i + 1]; a[i + 1] = x; } i = i + 1; } j = j + 1; } i = 0; while i < 5 { print a[i]; i = i + 1; } }",
}

// mixed: a text of which a statement or an expression comes from another one. It need not be a right program.
func mixed(r *rand.Rand, text, other string) string {
	p, _, _ := syntax.Parse(text)
	q, _, _ := syntax.Parse(other)
	at, by, ahead, behind := p.Stmts[r.Intn(len(p.Stmts))].Span, q.Stmts[r.Intn(len(q.Stmts))].Span, "", ""
	if r.Intn(2) == 0 {
		at, by, ahead, behind = p.Exprs[r.Intn(len(p.Exprs))].Span, q.Exprs[r.Intn(len(q.Exprs))].Span, "(", ")"
	}
	return text[:at.From] + ahead + other[by.From:by.To] + behind + text[at.To:]
}

// inLines: a text in which lines begin elsewhere.
func inLines(r *rand.Rand, text string) string {
	return strings.Map(func(c rune) rune {
		if c != ' ' && c != '\n' {
			return c
		}
		return []rune{' ', ' ', '\n'}[r.Intn(3)]
	}, text)
}

// mixtures gives right programs that are mixed by chance, the same ones in every run.
func mixtures(t *testing.T, many int, use func(r *rand.Rand, text string)) {
	t.Helper()
	r := rand.New(rand.NewSource(19))
	var texts []string
	for _, text := range pool {
		if _, _, e := syntax.Parse(text); e == api.OK {
			texts = append(texts, text)
		}
	}
	first := len(texts)
	for n := 0; n < many && !t.Failed(); {
		text := mixed(r, texts[r.Intn(first)], texts[r.Intn(len(texts))])
		p, _, e := syntax.Parse(text)
		info, _, f := check.Check(p)
		_, g := make.Make(p, info)
		if e != api.OK || f != api.OK || g != api.OK || len(p.Exprs) < 6 || len(text) > 1200 {
			continue
		}
		n++
		texts = append(texts, text)
		use(r, inLines(r, text))
	}
}

func inputsByChance(r *rand.Rand) []int {
	var out []int
	for range r.Intn(20) {
		out = append(out, []int{0, 1, 2, 5, -1, math.MinInt, math.MaxInt, r.Intn(100)}[r.Intn(8)])
	}
	return out
}

func one(r *rand.Rand, of ...string) string { return of[r.Intn(len(of))] }

// scripter writes orders by chance.
type scripter struct {
	*rand.Rand
	count, lines int      // how many records, and lines, there are
	names        []string // those of the program, and others
	last         string   // the place that was named last
}

func scripterOf(r *rand.Rand, w *words) *scripter {
	out := &scripter{Rand: r, count: w.end(), lines: strings.Count(w.Text, "\n") + 1, names: []string{"main", "z"}}
	for _, f := range w.Tree.Funcs {
		out.names = append(out.names, f.Params...)
		out.names = append(out.names, f.Params...)
	}
	for _, x := range w.Tree.Stmts {
		if x.Kind == api.SVar || x.Kind == api.SArray {
			out.names = append(out.names, x.Name)
		}
	}
	return out
}

func (s *scripter) place() string {
	if s.Intn(4) > 0 || s.last == "" {
		s.last = one(s.Rand, s.names...)
		if s.Intn(5) > 2 {
			s.last += "[" + strconv.Itoa(s.Intn(6)) + "]"
		}
	}
	return s.last
}

// line: an order, now and then none, and seldom quit.
func (s *scripter) line() string {
	switch s.Intn(24) {
	case 0, 1, 2:
		return one(s.Rand, "step", "back", "next", "prev", "finish", "start")
	case 3, 4, 5:
		return one(s.Rand, "run", "rerun")
	case 6, 7, 8:
		return "go " + strconv.Itoa(s.Intn(s.count+3))
	case 9, 10:
		return one(s.Rand, "break ", "clear ") + strconv.Itoa(s.Intn(min(s.lines+3, 9)))
	case 11, 12:
		return one(s.Rand, "reached", "slice", "where", "list")
	case 13:
		return one(s.Rand, "", "jump", "go", "watch 1", "quit 1", " step ", "print\ta", strings.Repeat(" ", 201))
	case 14, 15:
		return "print " + s.place()
	case 16, 17:
		return "why " + s.place()
	}
	if s.Intn(80) == 0 {
		return "quit"
	}
	return one(s.Rand, "watch ", "watch ", "drop ") + s.place()
}

func paceByChance(r *rand.Rand) int {
	return []int{1, 2, 3, 1 + r.Intn(20), 1 + r.Intn(400), 1000}[r.Intn(6)]
}

func roomByChance(r *rand.Rand) int { return []int{1, 1, 2, 3, 1 + r.Intn(20), 1000}[r.Intn(6)] }

// isSame: an empty list and none mean the same.
func isSame(a, b desk.Reply) bool {
	same := slices.Equal(a.List, b.List)
	a.List, b.List = nil, nil
	return same && reflect.DeepEqual(a, b)
}

// wantByTheWords: desks of a program, with any pace and room, say to lines by chance what the words say.
func wantByTheWords(t *testing.T, r *rand.Rand, text string, w world.World, size int, count func(line string, x desk.Reply)) {
	t.Helper()
	words := wordsOf(t, text, w)
	var desks []*desk.Desk
	for range 3 {
		desks = append(desks, opened(t, text, w, paceByChance(r), roomByChance(r)))
	}
	var script []string
	lines := scripterOf(r, words)
	for range size {
		line := lines.line()
		script = append(script, line)
		want := words.do(line)
		count(line, want)
		for _, d := range desks {
			if got := d.Do(line); !isSame(got, want) || d.Len() != words.end() {
				t.Fatalf("P19.1: with the pace %d: %v, want %v, behind\n%q\nof\n%s\nin %v", d.Graph.Pace(), got, want, script, text, w)
			}
		}
	}
}

func TestScriptsByTheWords(t *testing.T) {
	codes, moves, answers := map[api.Errno]int{}, map[string]int{}, map[string]int{}
	mixtures(t, 1200, func(r *rand.Rand, text string) {
		w := world.World{Steps: r.Intn(200), Inputs: inputsByChance(r)}
		wantByTheWords(t, r, text, w, 60, func(line string, x desk.Reply) {
			codes[x.Code]++
			word, _, _ := strings.Cut(strings.TrimSpace(line), " ")
			if x.Code == api.OK {
				answers[word]++
			}
			if x.Code == api.OK && !x.Clamped {
				moves[word]++
			}
		})
	})
	for _, e := range []api.Errno{api.OK, api.ErrName, api.ErrTwice, api.ErrType, api.ErrIndex, api.ErrNone, api.ErrClosed, api.ErrLong, api.ErrOrder, api.ErrParse} {
		if codes[e] < 100 {
			t.Errorf("only %d replies have the code %d", codes[e], e)
		}
	}
	for _, word := range strings.Fields("step back next prev finish start run rerun go break clear watch drop print why reached slice where list quit") {
		if moves[word] < 100 || answers[word] < 100 {
			t.Errorf("only %d replies to %s, %d of them not clamped", answers[word], word, moves[word])
		}
	}
}

// Each name in a statement's own expressions is seen there as what it stands for.
func TestSeenIsWhatANameStandsFor(t *testing.T) {
	names := 0
	mixtures(t, 1500, func(r *rand.Rand, text string) {
		p, info := checked(t, text)
		for at, s := range p.Stmts {
			for name, slot := range namesOf(p, info, s) {
				names++
				if got := desk.Seen(p, info, at, name); got != slot {
					t.Fatalf("P19.1: at %.30q the name %s is seen as %d, want %d, of\n%s", text[s.Span.From:], name, got, slot, text)
				}
			}
			for _, name := range strings.Fields("a b c d e f i j n x y z a1 main") {
				if got, want := desk.Seen(p, info, at, name), seen(p, info, at, name); got != want {
					t.Fatalf("P19.1: at %.30q the name %s is seen as %d, want %d, of\n%s", text[s.Span.From:], name, got, want, text)
				}
			}
		}
	})
	if names < 15000 {
		t.Errorf("only %d names", names)
	}
}

// namesOf: the slots of names in a statement, and in its expressions, but of what it brings itself.
func namesOf(p api.Tree, info check.Info, s api.Stmt) map[string]int {
	out := map[string]int{}
	for at, x := range p.Exprs {
		inner := slices.ContainsFunc(slices.Concat(s.Then, s.Else), func(n int) bool {
			return p.Stmts[n].Span.From <= x.Span.From && x.Span.To <= p.Stmts[n].Span.To
		})
		if within := s.Span.From <= x.Span.From && x.Span.To <= s.Span.To; within && !inner && (x.Kind == api.EName || x.Kind == api.EIndex) {
			out[x.Name] = info.Slot[at]
		}
	}
	return out
}

// The limits by chance: arrays that are as long as many watches, and lines that are breaks.
func TestFullListsByTheWords(t *testing.T) {
	r := rand.New(rand.NewSource(190))
	many := 0
	for range 60 {
		text := inLines(r, "func main() { var a[30]; var x = 0; while x < 30 { a[x % 7] = x + read; x = x + 1; f(x); } }\nfunc f(n) { var a[30]; a[n] = n; }")
		w := world.World{Steps: 150, Inputs: slices.Repeat([]int{1, 0, -1}, 20)}
		words := wordsOf(t, text, w)
		d := opened(t, text, w, paceByChance(r), roomByChance(r))
		for range 300 {
			line := fmt.Sprintf("%s a[%d]", one(r, "watch", "watch", "watch", "drop"), r.Intn(31))
			switch r.Intn(8) {
			case 0, 1:
				line = fmt.Sprintf("%s %d", one(r, "break", "break", "break", "clear"), r.Intn(30))
			case 2:
				line = one(r, "run", "rerun")
			case 3:
				line = fmt.Sprintf("go %d", r.Intn(words.end()))
			}
			want := words.do(line)
			if want.Code == api.ErrMany {
				many++
			}
			if got := d.Do(line); !isSame(got, want) {
				t.Fatalf("P19.1: %s: %v, want %v, of\n%s", line, got, want, text)
			}
		}
	}
	if many < 1000 {
		t.Errorf("only %d replies are that there are too many", many)
	}
}
