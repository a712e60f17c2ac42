package desk_test

import (
	"strconv"
	"strings"
	"testing"

	"rewind/api"
	"rewind/check"
	"rewind/desk"
	"rewind/syntax"
)

func checked(t *testing.T, text string) (api.Tree, check.Info) {
	t.Helper()
	p, at, e := syntax.Parse(text)
	info, where, f := check.Check(p)
	if e != api.OK || f != api.OK {
		t.Fatalf("%.2000q: Parse %d, %d; Check %d, %d", text, at, e, where, f)
	}
	return p, info
}

// stmtOf: the statement that begins where a text's part stands first.
func stmtOf(t *testing.T, text string, p api.Tree, part string) int {
	t.Helper()
	for at, s := range p.Stmts {
		if s.Span.From == strings.Index(text, part) {
			return at
		}
	}
	t.Fatalf("no statement begins with %s", part)
	return 0
}

// nested has names of which some stand for others in what stands in something; slots are 0 to 2, 3 (c), 4 (the inner a), 5 (d), 6 (the innermost a), 7 (e), 8 (f), 9 (the last c), 10 (b).
const nested = "func main() { f(1, 2, 3); }\nfunc f(x, y, a1) { print 0; if x > 1 { var c = 1; print c; var a = c; while a < 5 { print a; a = a + 1; var d = 2; if d > 1 { print d; var a = d; print a + 1; } else { print -d; var e = 1; print e; } print -a; } print 100; } else if y > 1 { print 200; var f[3]; print f[0]; } else { print 300; } var c = 7; if y > 7 { print c; } var b[2]; print 400; return; }\nfunc g(b) int { return b; }"

func TestSeen(t *testing.T) {
	p, info := checked(t, nested)
	for _, x := range []struct {
		stmt string
		want string // of each name of "x y a1 c a d e f b" the slot, or -
	}{
		{"print 0;", "0 1 2 - - - - - -"},
		{"if x > 1", "0 1 2 - - - - - -"},
		{"var c = 1", "0 1 2 - - - - - -"},
		{"print c; var a", "0 1 2 3 - - - - -"},
		{"var a = c", "0 1 2 3 - - - - -"},
		{"while a", "0 1 2 3 4 - - - -"},
		{"print a;", "0 1 2 3 4 - - - -"},
		{"var d", "0 1 2 3 4 - - - -"},
		{"if d > 1", "0 1 2 3 4 5 - - -"},
		{"print d;", "0 1 2 3 4 5 - - -"},
		{"var a = d", "0 1 2 3 4 5 - - -"},
		{"print a + 1", "0 1 2 3 6 5 - - -"},
		{"print -d", "0 1 2 3 4 5 - - -"},
		{"var e", "0 1 2 3 4 5 - - -"},
		{"print e", "0 1 2 3 4 5 7 - -"},
		{"print -a", "0 1 2 3 4 5 - - -"},
		{"print 100", "0 1 2 3 4 - - - -"},
		{"if y > 1", "0 1 2 - - - - - -"},
		{"print 200", "0 1 2 - - - - - -"},
		{"var f[3]", "0 1 2 - - - - - -"},
		{"print f[0]", "0 1 2 - - - - 8 -"},
		{"print 300", "0 1 2 - - - - - -"},
		{"var c = 7", "0 1 2 - - - - - -"},
		{"if y > 7", "0 1 2 9 - - - - -"},
		{"print c; } var b", "0 1 2 9 - - - - -"},
		{"var b[2]", "0 1 2 9 - - - - -"},
		{"print 400", "0 1 2 9 - - - - 10"},
		{"return; }", "0 1 2 9 - - - - 10"},
		{"return b", "- - - - - - - - 0"},
		{"f(1, 2, 3)", "- - - - - - - - -"},
	} {
		at := stmtOf(t, nested, p, x.stmt)
		var got []string
		for _, name := range strings.Fields("x y a1 c a d e f b") {
			slot := desk.Seen(p, info, at, name)
			got = append(got, strings.Replace(strconv.Itoa(slot), "-1", "-", 1))
		}
		if s := strings.Join(got, " "); s != x.want {
			t.Errorf("P19.1: at %s the names are seen as %s, want %s", x.stmt, s, x.want)
		}
		for _, name := range []string{"", "z", "X", "main", "g", "var", "c ", "a[0]", "print"} {
			if slot := desk.Seen(p, info, at, name); slot != -1 {
				t.Errorf("P19.1: at %s the name %q is seen as %d, want -1", x.stmt, name, slot)
			}
		}
	}
}

// Nothing stands between the end of a statement and the beginning of the next one.
func TestSeenWithoutBlanks(t *testing.T) {
	text := "func main(){var a[1];var x=1;print x;}"
	p, info := checked(t, text)
	for at, want := range [][2]int{{-1, -1}, {0, -1}, {0, 1}} {
		if a, x := desk.Seen(p, info, at, "a"), desk.Seen(p, info, at, "x"); a != want[0] || x != want[1] {
			t.Errorf("P19.1: at the statement %d a and x are seen as %d, %d, want %d", at, a, x, want)
		}
	}
}
