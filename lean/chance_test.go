package lean_test

import (
	"math/rand"
	"slices"
	"strings"
	"testing"

	"rewind/api"
	"rewind/fence"
	"rewind/flow"
	"rewind/lean"
)

// writer writes right programs by chance, which are the same in every run.
type writer struct {
	r    *rand.Rand
	out  strings.Builder
	left int // how many statements more it writes
	ends int // behind one of how many statements a block ends
}

func (w *writer) put(s string) { w.out.WriteString(s) }

func (w *writer) chance(n int) bool { return w.r.Intn(n) == 0 }

func byChance(r *rand.Rand, size int) string {
	w := &writer{r: r, left: r.Intn(size), ends: 2 + r.Intn(5)}
	for _, head := range []string{"func main() ", "func f() int ", "func g(x, y) "}[:1+r.Intn(3)] {
		w.put(head)
		w.block(head, false, 1)
	}
	return w.out.String()
}

func (w *writer) block(head string, inWhile bool, depth int) {
	w.put("{ ")
	for w.left > 0 && !w.chance(w.ends) {
		w.left--
		w.statement(head, inWhile, depth)
	}
	w.put("} ")
}

func (w *writer) statement(head string, inWhile bool, depth int) {
	n := w.r.Intn(12)
	switch {
	case n < 4 && depth < 20:
		w.choice(head, inWhile, depth)
	case n < 7 && depth < 20:
		w.put("while true ")
		w.block(head, true, depth+1)
	case n < 9 && inWhile:
		w.put([]string{"break; ", "continue; "}[w.r.Intn(2)])
	case n == 9 && strings.HasSuffix(head, "int "):
		w.put("return 1; ")
	case n == 9:
		w.put("return; ")
	default:
		w.put([]string{"print 1; ", "main(); ", "if true { } ", "while true { } "}[w.r.Intn(4)])
	}
}

func (w *writer) choice(head string, inWhile bool, depth int) {
	w.put("if true ")
	w.block(head, inWhile, depth+1)
	switch w.r.Intn(4) {
	case 0:
		w.put("else ")
		w.block(head, inWhile, depth+1)
	case 1:
		w.put("else ")
		w.choice(head, inWhile, depth+1)
	}
}

// programs gives some programs by chance, and their flows.
func programs(t *testing.T, many, size int, use func(p api.Tree, g flow.Graph, text string)) {
	t.Helper()
	r := rand.New(rand.NewSource(9))
	for n := 0; n < many && !t.Failed(); n++ {
		text := byChance(r, size)
		p := parsed(t, text)
		use(p, flow.Of(p), text)
	}
}

func TestLeansByTheWords(t *testing.T) {
	none, one, more, itself := 0, 0, 0, 0
	programs(t, 2000, 60, func(p api.Tree, g flow.Graph, text string) {
		got, want := lean.Of(g), leansByWords(g, choicesOf(p))
		if len(got) != len(want) {
			t.Fatalf("P9.1: of\n%s\nthe leans of %d statements, want %d", text, len(got), len(want))
		}
		for at, l := range want {
			if !slices.Equal(got[at], l) {
				t.Errorf("P9.1: of\n%s\n%d leans on %v, want %v", text, at, got[at], l)
			}
			switch {
			case len(l) == 0:
				none++
			case len(l) == 1:
				one++
			default:
				more++
			}
			if slices.Contains(l, lean.Lean{At: at, Way: 0}) {
				itself++
			}
		}
	})
	if none < 1000 || one < 1000 || more < 1000 || itself < 1000 {
		t.Errorf("%d have no lean, %d one, %d more; %d lean on themselves", none, one, more, itself)
	}
}

func TestUnderByTheWords(t *testing.T) {
	under := 0
	programs(t, 300, 30, func(p api.Tree, g flow.Graph, text string) {
		leans := leansByWords(g, choicesOf(p))
		for at := exit; at <= len(p.Stmts); at++ {
			for way := -1; way < 4; way++ {
				want := underByWords(leans, lean.Lean{At: at, Way: way})
				if got := lean.Under(g, at, way); !slices.Equal(got, want) {
					t.Errorf("P9.1: of\n%s\nUnder %d, %d: %d, want %d", text, at, way, got, want)
				}
				under += len(want)
			}
		}
	})
	if under < 1000 {
		t.Errorf("only %d are under some way", under)
	}
}

// Sets by chance are closed step by step: each one but the last isn't so yet.
func TestClosedByTheWords(t *testing.T) {
	r, grown := rand.New(rand.NewSource(90)), 0
	programs(t, 600, 40, func(p api.Tree, g flow.Graph, text string) {
		leans := leansByWords(g, choicesOf(p))
		for range 5 {
			var l []int
			for range r.Intn(4) {
				if len(p.Stmts) > 0 {
					l = append(l, r.Intn(len(p.Stmts)))
				}
			}
			for more := missing(leans, l); more >= 0; more = missing(leans, l) {
				if lean.Closed(g, l) {
					t.Errorf("P9.1: of\n%s\n%d is closed, and leans on %d", text, l, more)
				}
				l = append(l, more)
				grown++
			}
			r.Shuffle(len(l), func(i, j int) { l[i], l[j] = l[j], l[i] })
			if !lean.Closed(g, l) {
				t.Errorf("P9.1: of\n%s\n%d isn't closed", text, l)
			}
		}
	})
	if grown < 3000 {
		t.Errorf("sets grew only %d times", grown)
	}
}

func TestFallsByTheWords(t *testing.T) {
	kinds := map[int]int{}
	programs(t, 2000, 60, func(p api.Tree, g flow.Graph, text string) {
		got := lean.Falls(p)
		if want := fallsByFlow(p); !slices.Equal(got, want) {
			t.Errorf("P9.1: of\n%s\nFalls: %d, want %d, as prints do", text, got, want)
		}
		if want := fallsByWords(p); !slices.Equal(got, want) {
			t.Errorf("P9.1: of\n%s\nFalls: %d, want %d", text, got, want)
		}
		for _, s := range p.Stmts {
			kinds[s.Kind]++
		}
	})
	for _, k := range []int{api.SIf, api.SWhile, api.SBreak, api.SContinue, api.SReturn, api.SPrint, api.SCall} {
		if kinds[k] < 1000 {
			t.Errorf("of the kind %d there are only %d statements: %v", k, kinds[k], kinds)
		}
	}
}

// gone: the ways that are taken, chosen by chance, from a statement to the exit; none, if that is far.
func gone(r *rand.Rand, g flow.Graph, at int) []lean.Lean {
	var out []lean.Lean
	for at != exit {
		if len(out) > 300 {
			return nil
		}
		way := r.Intn(len(g.Next[at]))
		out = append(out, lean.Lean{At: at, Way: way})
		at = g.Next[at][way]
	}
	return out
}

// Who takes a way comes by all that lean on it; and who comes by a statement that isn't on every way has taken one that it leans on.
func TestWhyAWayComesBy(t *testing.T) {
	r, led, due := rand.New(rand.NewSource(91)), 0, 0
	programs(t, 600, 40, func(p api.Tree, g flow.Graph, text string) {
		leans := lean.Of(g)
		for _, first := range slices.Repeat(g.First, 5) {
			taken := gone(r, g, first)
			for n, x := range taken {
				if fence.Fences(g, x.At, first) {
					due++
				} else if !slices.ContainsFunc(leans[x.At], func(l lean.Lean) bool { return slices.Contains(taken[:n], l) }) {
					t.Errorf("P9.1: of\n%s\nthe ways %v lead to %d, which leans on none of them: %v", text, taken[:n], x.At, leans[x.At])
				} else {
					led++
				}
				for _, under := range underByWords(leans, x) {
					if !slices.ContainsFunc(taken[n+1:], func(l lean.Lean) bool { return l.At == under }) {
						t.Errorf("P9.1: of\n%s\n%d leans on %v, but the ways behind it are %v", text, under, x, taken[n+1:])
					}
				}
			}
		}
	})
	if led < 1000 || due < 1000 {
		t.Errorf("only %d statements were led to by a way, and %d are on every way", led, due)
	}
}
