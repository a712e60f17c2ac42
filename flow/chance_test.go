package flow_test

import (
	"math/rand"
	"reflect"
	"strings"
	"testing"

	"rewind/api"
	"rewind/flow"
)

// writer writes right programs by chance, which are the same in every run.
type writer struct {
	r    *rand.Rand
	out  strings.Builder
	left int // how many statements more it writes
	ends int // behind one of how many statements a block ends
}

func (w *writer) put(s string) { w.out.WriteString(s) }

func (w *writer) chance(n int) bool { return w.r.Intn(n) == 0 }

func byChance(r *rand.Rand, size int) string {
	w := &writer{r: r, left: r.Intn(size), ends: 2 + r.Intn(5)}
	for _, head := range []string{"func main() ", "func f() int ", "func g(x, y) "}[:1+r.Intn(3)] {
		w.put(head)
		w.block(head, false, 1)
	}
	return w.out.String()
}

func (w *writer) block(head string, inWhile bool, depth int) {
	w.put("{ ")
	for w.left > 0 && !w.chance(w.ends) {
		w.left--
		w.statement(head, inWhile, depth)
	}
	w.put("} ")
}

func (w *writer) statement(head string, inWhile bool, depth int) {
	n := w.r.Intn(12)
	switch {
	case n < 4 && depth < 20:
		w.choice(head, inWhile, depth)
	case n < 7 && depth < 20:
		w.put("while true ")
		w.block(head, true, depth+1)
	case n < 9 && inWhile:
		w.put([]string{"break; ", "continue; "}[w.r.Intn(2)])
	case n == 9 && strings.HasSuffix(head, "int "):
		w.put("return 1; ")
	case n == 9:
		w.put("return; ")
	default:
		w.put([]string{"print 1; ", "main(); ", "if true { } ", "while true { } "}[w.r.Intn(4)])
	}
}

func (w *writer) choice(head string, inWhile bool, depth int) {
	w.put("if true ")
	w.block(head, inWhile, depth+1)
	switch w.r.Intn(4) {
	case 0:
		w.put("else ")
		w.block(head, inWhile, depth+1)
	case 1:
		w.put("else ")
		w.choice(head, inWhile, depth+1)
	}
}

// programs gives some programs by chance, and their graphs.
func programs(t *testing.T, many, size int, use func(p api.Tree, g flow.Graph, text string)) {
	t.Helper()
	r := rand.New(rand.NewSource(7))
	for n := 0; n < many && !t.Failed(); n++ {
		text := byChance(r, size)
		p := parsed(t, text)
		use(p, flow.Of(p), text)
	}
}

func TestGraphsByTheWords(t *testing.T) {
	kinds, most := map[int]int{}, 0
	programs(t, 4000, 60, func(p api.Tree, g flow.Graph, text string) {
		if want := newOracle(p).graph(); !reflect.DeepEqual(full(g), full(want)) {
			t.Errorf("P7.1: Of\n%s:\n%d, want\n%d", text, g, want)
		}
		most = max(most, len(p.Stmts))
		for _, s := range p.Stmts {
			kinds[s.Kind]++
		}
	})
	for _, k := range []int{api.SIf, api.SWhile, api.SBreak, api.SContinue, api.SReturn, api.SPrint, api.SCall} {
		if kinds[k] < 1000 {
			t.Errorf("of the kind %d there are only %d statements: %v", k, kinds[k], kinds)
		}
	}
	if most < 50 {
		t.Errorf("no program has more than %d statements", most)
	}
}

// full: a graph, whose empty lists are nil, which means the same.
func full(g flow.Graph) flow.Graph {
	out := flow.Graph{First: append([]int(nil), g.First...)}
	for _, l := range g.Next {
		out.Next = append(out.Next, append([]int(nil), l...))
	}
	return out
}

func TestGraphsByRuns(t *testing.T) {
	r, gone := rand.New(rand.NewSource(70)), map[[2]int]int{}
	programs(t, 4000, 40, func(p api.Tree, g flow.Graph, text string) {
		for n, f := range p.Funcs {
			for range 10 {
				run := &runner{Tree: p, r: r, left: 100}
				run.run(f.Body)
				wantRun(t, g, g.First[n], run.steps, text)
				for _, s := range run.steps {
					gone[[2]int{p.Stmts[s.at].Kind, s.way}]++
				}
			}
		}
	})
	for _, k := range []int{api.SIf, api.SWhile, api.SBreak, api.SContinue, api.SReturn, api.SPrint} {
		if gone[[2]int{k, 0}] < 1000 {
			t.Errorf("way 0 of the kind %d was gone only %d times", k, gone[[2]int{k, 0}])
		}
	}
	if gone[[2]int{api.SIf, 1}] < 1000 || gone[[2]int{api.SWhile, 1}] < 1000 {
		t.Errorf("some way 1 was gone too seldom: %v", gone)
	}
}

// wantRun: the graph leads where a run came by, from its first statement to the exit.
func wantRun(t *testing.T, g flow.Graph, first int, steps []step, text string) {
	t.Helper()
	at := first
	for _, s := range steps {
		if s.at != at {
			t.Errorf("P7.1: of\n%s\na run comes by %d, the graph leads to %d", text, s.at, at)
			return
		}
		at = g.Next[at][s.way]
	}
	if at != exit {
		t.Errorf("P7.1: of\n%s\na run ends, the graph leads to %d", text, at)
	}
}

func TestWaysByTheirClosure(t *testing.T) {
	ways := 0
	programs(t, 600, 40, func(p api.Tree, g flow.Graph, text string) {
		way, n := closed(g), len(g.Next)
		for from := range n {
			for to := exit; to < n; to++ {
				if got, want := g.Way(from, to), way[from][(to+n+1)%(n+1)]; got != want {
					t.Errorf("P7.1: of\n%s\nWay(%d, %d): %t, want %t", text, from, to, got, want)
				} else if got {
					ways++
				}
			}
			var want []int
			for to := range n {
				if to == from || way[from][to] {
					want = append(want, to)
				}
			}
			if got := g.Reach(from); !reflect.DeepEqual(got, want) {
				t.Errorf("P7.1: of\n%s\nReach(%d): %d, want %d", text, from, got, want)
			}
			if g.Way(exit, from) {
				t.Errorf("P7.1: of\n%s\nWay(-1, %d)", text, from)
			}
		}
		if g.Way(exit, exit) || len(g.Reach(exit)) > 0 {
			t.Errorf("P7.1: of\n%s\na way leads from the exit", text)
		}
	})
	if ways < 10000 {
		t.Errorf("there are only %d ways", ways)
	}
}

func TestBackIsNextTurnedRound(t *testing.T) {
	programs(t, 2000, 60, func(p api.Tree, g flow.Graph, text string) {
		back := g.Back()
		if len(back) != len(g.Next) {
			t.Fatalf("P7.1: of\n%s\nBack has %d lists, want %d", text, len(back), len(g.Next))
		}
		for to := range g.Next {
			var want []int
			for at, next := range g.Next {
				if next[0] == to || next[len(next)-1] == to {
					want = append(want, at)
				}
			}
			if got := append([]int(nil), back[to]...); !reflect.DeepEqual(got, want) {
				t.Errorf("P7.1: of\n%s\nBack of %d: %d, want %d", text, to, got, want)
			}
		}
	})
}

func TestSomeWayLeadsToTheExit(t *testing.T) {
	programs(t, 2000, 60, func(p api.Tree, g flow.Graph, text string) {
		way, n := closed(g), len(g.Next)
		for at := range n {
			if !way[at][n] || !g.Way(at, exit) {
				t.Errorf("P7.2: of\n%s\nno way leads from %d to the exit", text, at)
			}
		}
	})
}

func TestWaysStayInTheirFunction(t *testing.T) {
	programs(t, 500, 60, func(p api.Tree, g flow.Graph, text string) {
		info := checked(t, p)
		for at := range g.Next {
			for _, to := range g.Reach(at) {
				if info.Func[to] != info.Func[at] {
					t.Errorf("P7.1: of\n%s\na way leads from %d to %d", text, at, to)
				}
			}
		}
	})
}
