package slice_test

import (
	"math"
	"math/rand"
	"slices"
	"strings"
	"testing"

	"rewind/slice"
)

// lines: a program on some lines, with remarks, one of which stands within a statement.
const lines = `# one
func main() {
	var x = 1; # two
	if x # { three
		> 0 {
		x =
			2; print x; # four
	} else if x < 0 { x = 5; }
	print x;
}
func f() { return; }
`

// Of lines.
const (
	xIs1 = iota
	xIs2
	printIn
	xIs5
	ifElse
	ifFirst
	printLast
	back
)

func TestText(t *testing.T) {
	s := sourced(t, lines, with(), 3, 2)
	if got := slice.Text(s, []int{xIs1, xIs2, printIn, xIs5, ifElse, ifFirst, printLast, back}); got != lines {
		t.Errorf("P17.1: Text of all statements:\n%s", got)
	}
	for _, x := range []struct {
		l    []int
		want string // folded
	}{
		{nil, `# one
func main() {
# two






}
func f() { }
`},
		{[]int{printLast, xIs1, back}, `# one
func main() {
var x = 1; # two





print x;
}
func f() { return; }
`},
		{[]int{ifFirst, xIs1, ifElse}, `# one
func main() {
var x = 1; # two
if x # { three
> 0 {

# four
} else if x < 0 { }

}
func f() { }
`},
		// What stands in one that isn't among them is blanked with it.
		{[]int{ifFirst, xIs2, xIs5, printLast}, `# one
func main() {
# two
if x # { three
> 0 {
x =
2; # four
} else
print x;
}
func f() { }
`},
		{[]int{xIs2, printIn, xIs5, ifElse}, `# one
func main() {
# two






}
func f() { }
`},
	} {
		got := slice.Text(s, x.l)
		if foldedLines(got) != x.want {
			t.Errorf("P17.1: Text of %d:\n%s\nwant\n%s", x.l, got, x.want)
		}
		wantBlanked(t, s, x.l, got)
	}
}

// foldedLines: a text, each line of which is folded.
func foldedLines(text string) string {
	var out []string
	for l := range strings.SplitSeq(text, "\n") {
		out = append(out, folded(l))
	}
	return strings.Join(out, "\n")
}

// wantBlanked: by the words, byte by byte.
func wantBlanked(t *testing.T, s slice.Source, l []int, got string) {
	t.Helper()
	want := []byte(s.Text)
	for at, x := range s.Tree.Stmts {
		if slices.Contains(l, at) {
			continue
		}
		for n := x.Span.From; n < x.Span.To; n++ {
			if s.Text[n] != '\n' {
				want[n] = ' '
			}
		}
	}
	if got != string(want) {
		t.Errorf("P17.1: Text of %d:\n%q\nwant\n%q", l, got, want)
	}
}

// The order plays no part, nor does what is there twice, or is no statement.
func TestTextOfAnyList(t *testing.T) {
	r := rand.New(rand.NewSource(17))
	for _, text := range append([]string{lines}, pool...) {
		s := sourced(t, text, with(), 3, 2)
		for range 200 {
			var l []int
			for range r.Intn(2 * len(s.Tree.Stmts)) {
				l = append(l, r.Intn(len(s.Tree.Stmts)))
			}
			if r.Intn(3) == 0 {
				l = append(l, -1, len(s.Tree.Stmts), math.MinInt, math.MaxInt)
			}
			wantBlanked(t, s, l, slice.Text(s, l))
		}
	}
}

// It asks the text and the tree alone.
func TestTextAsksTextAndTree(t *testing.T) {
	s := sourced(t, lines, with(), 3, 2)
	bare := slice.Source{Text: s.Text, Tree: s.Tree}
	for _, l := range [][]int{nil, {}, {xIs1}, {ifFirst, printIn}} {
		wantBlanked(t, s, l, slice.Text(bare, l))
	}
	empty := sourced(t, "func main() { } # none", with(), 3, 2)
	if got := slice.Text(empty, []int{0}); got != empty.Text {
		t.Errorf("P17.1: Text of a program without statements: %q", got)
	}
}
