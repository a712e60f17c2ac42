package slice_test

import (
	"slices"
	"strings"
	"testing"

	"rewind/api"
	"rewind/check"
	"rewind/slice"
	"rewind/syntax"
)

func TestNames(t *testing.T) {
	// x, y, b, a, c are the slots 2 to 6.
	const ahead = "func main() { } func f(p, q) int { var x = 1; var y = 2; var b = true; var a[3]; var c[2]; "
	for _, x := range []struct {
		text string
		want []int
	}{
		{"var z = 1;", []int{7}},
		{"var z = x;", []int{2, 7}},
		{"var x2 = x2(x, y);", []int{2, 3, 7}},
		{"var z[3];", []int{7}},
		{"x = 1;", []int{2}},
		{"x = x + x * x;", []int{2}},
		{"y = x;", []int{2, 3}},
		{"p = q - p;", []int{0, 1}},
		{"a[0] = 1;", []int{5}},
		{"a[x] = y;", []int{2, 3, 5}},
		{"c[a[p]] = -c[x2(y, (q))];", []int{0, 1, 3, 5, 6}},
		{"c[y] = a[x];", []int{2, 3, 5, 6}},
		{"if b { x = 1; } else { y = a[0]; }", []int{4}},
		{"if !b && x < y { a[0] = 1; }", []int{2, 3, 4}},
		{"if true { x = 1; } else if b { y = 1; }", nil},
		{"while b == (p < 2) { x = y; var z = 1; print z; }", []int{0, 4}},
		{"while true { break; }", nil},
		{"return 1;", nil},
		{"return y - a[1];", []int{3, 5}},
		{"print b;", []int{4}},
		{"print 1;", nil},
		{"print read;", nil},
		{"print f(y, x2(read, 3));", []int{3}},
		{"x2(1, 2);", nil},
		{"x2(y, x + f(q, a[c[1]]));", []int{1, 2, 3, 5, 6}},
	} {
		p, info := known(t, ahead+x.text+" }\nfunc x2(a, b) int { }")
		// The statement that was put last is the one itself: those in it stand ahead of it.
		at := len(p.Stmts) - 1
		if got := slice.Names(p, info, at); !slices.Equal(got, x.want) {
			t.Errorf("P17.1: Names of %s: %d, want %d", x.text, got, x.want)
		}
	}
	p, info := known(t, "func main() { while true { break; continue; } f(); }\nfunc f() { return; }")
	for at := range p.Stmts {
		if got := slice.Names(p, info, at); len(got) != 0 {
			t.Errorf("P17.1: Names of %d: %d, want none", at, got)
		}
	}
}

func known(t *testing.T, text string) (api.Tree, check.Info) {
	t.Helper()
	p, at, e := syntax.Parse(text)
	info, where, f := check.Check(p)
	if e != api.OK || f != api.OK {
		t.Fatalf("%.2000q: Parse %d, %d; Check %d, %d", text, at, e, where, f)
	}
	return p, info
}

// An expression may have as many parts as a text has room for.
func TestNamesOfALongExpression(t *testing.T) {
	p, info := known(t, "func main() { var x = 1; var y = 2; print "+strings.Repeat("x+", 9900)+"y; }")
	if got := slice.Names(p, info, 2); !slices.Equal(got, []int{0, 1}) {
		t.Errorf("P17.1: Names: %d, want 0, 1", got)
	}
}
