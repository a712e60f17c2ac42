package fence_test

import (
	"math/rand"
	"reflect"
	"slices"
	"strings"
	"testing"

	"rewind/fence"
	"rewind/flow"
)

// writer writes right programs by chance, which are the same in every run.
type writer struct {
	r    *rand.Rand
	out  strings.Builder
	left int // how many statements more it writes
	ends int // behind one of how many statements a block ends
}

func (w *writer) put(s string) { w.out.WriteString(s) }

func (w *writer) chance(n int) bool { return w.r.Intn(n) == 0 }

func byChance(r *rand.Rand, size int) string {
	w := &writer{r: r, left: r.Intn(size), ends: 2 + r.Intn(5)}
	for _, head := range []string{"func main() ", "func f() int ", "func g(x, y) "}[:1+r.Intn(3)] {
		w.put(head)
		w.block(head, false, 1)
	}
	return w.out.String()
}

func (w *writer) block(head string, inWhile bool, depth int) {
	w.put("{ ")
	for w.left > 0 && !w.chance(w.ends) {
		w.left--
		w.statement(head, inWhile, depth)
	}
	w.put("} ")
}

func (w *writer) statement(head string, inWhile bool, depth int) {
	n := w.r.Intn(12)
	switch {
	case n < 4 && depth < 20:
		w.choice(head, inWhile, depth)
	case n < 7 && depth < 20:
		w.put("while true ")
		w.block(head, true, depth+1)
	case n < 9 && inWhile:
		w.put([]string{"break; ", "continue; "}[w.r.Intn(2)])
	case n == 9 && strings.HasSuffix(head, "int "):
		w.put("return 1; ")
	case n == 9:
		w.put("return; ")
	default:
		w.put([]string{"print 1; ", "main(); ", "if true { } ", "while true { } "}[w.r.Intn(4)])
	}
}

func (w *writer) choice(head string, inWhile bool, depth int) {
	w.put("if true ")
	w.block(head, inWhile, depth+1)
	switch w.r.Intn(4) {
	case 0:
		w.put("else ")
		w.block(head, inWhile, depth+1)
	case 1:
		w.put("else ")
		w.choice(head, inWhile, depth+1)
	}
}

// programs gives the flows of some programs by chance.
func programs(t *testing.T, many, size int, use func(g flow.Graph, text string)) {
	t.Helper()
	r := rand.New(rand.NewSource(7))
	for n := 0; n < many && !t.Failed(); n++ {
		text := byChance(r, size)
		use(graphOf(t, text), text)
	}
}

func TestFencesByTheWords(t *testing.T) {
	fenced, not := 0, 0
	programs(t, 800, 40, func(g flow.Graph, text string) {
		words, n := fencesByWords(g), len(g.Next)
		for at := range n {
			for a := exit; a < n; a++ {
				want := words[at][(a+n+1)%(n+1)]
				if got := fence.Fences(g, a, at); got != want {
					t.Errorf("P8.1: of\n%s\nFences of %d, %d: %t, want %t", text, a, at, got, want)
				}
				if want {
					fenced++
				} else {
					not++
				}
			}
		}
	})
	if fenced < 10000 || not < 10000 {
		t.Errorf("%d fence another one, %d don't", fenced, not)
	}
}

func TestJustOneNextFence(t *testing.T) {
	kinds, most := map[bool]int{}, 0
	programs(t, 4000, 60, func(g flow.Graph, text string) {
		next, words := fence.Next(g), fencesByWords(g)
		if len(next) != len(g.Next) {
			t.Fatalf("P8.1: of\n%s\nNext has %d, want %d", text, len(next), len(g.Next))
		}
		for at := range g.Next {
			want := nextByWords(words, at)
			if len(want) != 1 {
				t.Errorf("P8.2: of\n%s\nthe next fences of %d by the words: %d", text, at, want)
			} else if next[at] != want[0] {
				t.Errorf("P8.1: of\n%s\nthe next fence of %d: %d, want %d", text, at, next[at], want[0])
			}
			kinds[slices.Contains(g.Next[at], next[at])]++
		}
		most = max(most, len(next))
	})
	if kinds[true] < 10000 || kinds[false] < 10000 || most < 50 {
		t.Errorf("how many next fences are ways on, and aren't: %v; the greatest program has %d statements", kinds, most)
	}
}

func TestAllAndMeetByTheWords(t *testing.T) {
	met := 0
	programs(t, 400, 30, func(g flow.Graph, text string) {
		words, n := fencesByWords(g), len(g.Next)
		var all [][]int
		for at := range n {
			want := []int{at}
			for a := at; a != exit; {
				a = nextByWords(words, a)[0]
				want = append(want, a)
			}
			if got := fence.All(g, at); !reflect.DeepEqual(got, want) {
				t.Errorf("P8.1: of\n%s\nAll of %d: %d, want %d", text, at, got, want)
			}
			all = append(all, want)
		}
		for a := range n {
			for b := range n {
				first := slices.IndexFunc(all[a], func(x int) bool { return words[b][(x+n+1)%(n+1)] })
				if got, want := fence.Meet(g, a, b), all[a][first]; got != want {
					t.Errorf("P8.1: of\n%s\nMeet of %d, %d: %d, want %d", text, a, b, got, want)
				} else if want != a && want != b && want != exit {
					met++
				}
			}
		}
	})
	if met < 10000 {
		t.Errorf("only %d meet in a third one", met)
	}
}

// gone: where a way comes by that is chosen by chance, from a statement to the exit; none, if that is far.
func gone(r *rand.Rand, g flow.Graph, at int) []int {
	var out []int
	for at != exit {
		if len(out) > 1000 {
			return nil
		}
		out = append(out, at)
		at = g.Next[at][r.Intn(len(g.Next[at]))]
	}
	return append(out, exit)
}

// Each way to the exit goes through all that fence its first, and leaves the nearer ones for good ahead of the further ones.
func TestEachWayGoesThroughAll(t *testing.T) {
	r, ends := rand.New(rand.NewSource(70)), 0
	programs(t, 1000, 60, func(g flow.Graph, text string) {
		for at := range g.Next {
			all := fence.All(g, at)
			for range 5 {
				way := gone(r, g, at)
				if way == nil {
					continue
				}
				ends++
				left := -1
				for _, a := range all {
					last := len(way) - 1
					for last > left && way[last] != a {
						last--
					}
					if last <= left {
						t.Errorf("P8.1: of\n%s\na way %d doesn't go through %d, and then %d", text, way, all, a)
					}
					left = last
				}
			}
		}
	})
	if ends < 10000 {
		t.Errorf("only %d ways end", ends)
	}
}
