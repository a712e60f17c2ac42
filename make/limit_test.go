package make_test

import (
	"reflect"
	"strconv"
	"strings"
	"testing"

	"rewind/api"
	"rewind/code"
	"rewind/make"
)

// names: so many, parted by commas. They are short, as a text may have many of them.
func names(many int) string {
	const letters = "abcdefghijklmnopqrstuvwxyzABCDEFGHIJKLMNOPQRSTUVWXYZ"
	out := strings.Split(letters+letters[:12], "")
	for n := range 12 {
		out[len(letters)+n] += "_"
	}
	return strings.Join(out[:many], ", ")
}

// lastOf: a call of a function with so many parameters, the last of which gets an expression.
func lastOf(function string, params int, last string) string {
	return function + "(" + strings.Repeat("1, ", params-1) + last + ")"
}

// rest: how many parameters rest must have for an expression of a height.
func rest(high int) int { return (high-1)%63 + 1 }

// highOf: an expression of a height, and the functions that it calls.
func highOf(high int) (string, string) {
	out := lastOf("rest", rest(high), "1")
	for range (high - 1) / 63 {
		out = lastOf("most", 64, out)
	}
	return out, "func rest(" + names(rest(high)) + ") int { }\nfunc most(" + names(64) + ") int { }\n"
}

func wantDeep(t *testing.T, text string) {
	t.Helper()
	p, info := right(t, text)
	c, e := make.Make(p, info)
	if e != api.ErrDeep {
		t.Errorf("P11.1: Make of %.300q: %d, want %d", text, e, api.ErrDeep)
	}
	if !reflect.DeepEqual(c, code.Code{}) {
		t.Errorf("P7: Make of %.300q: code beside an error: %v", text, c)
	}
}

// wantGreatest: a text with an expression of a height (E) is code, with one that is one higher it isn't.
func wantGreatest(t *testing.T, high int, text string) {
	t.Helper()
	for n := high - 2; n <= high; n++ {
		e, functions := highOf(n)
		made(t, strings.ReplaceAll(text, "E", e)+"\n"+functions)
	}
	for n := high + 1; n <= high+60; n += 59 {
		e, functions := highOf(n)
		wantDeep(t, strings.ReplaceAll(text, "E", e)+"\n"+functions)
	}
}

func TestHighOfCalls(t *testing.T) {
	for _, high := range []int{1, 2, 63, 64, 65, 127, 199, 200, 201, 253, 254, 300} {
		e, functions := highOf(high)
		p, _ := right(t, "func main() { print "+e+"; }\n"+functions)
		if got := make.High(p, p.Stmts[0].A); got != high {
			t.Errorf("P11.1: High of a call: %d, want %d", got, high)
		}
	}
}

func TestTheGreatestHeight(t *testing.T) {
	wantGreatest(t, 200, "func main() { print E; }")
	wantGreatest(t, 200, "func main() { var x = E; }")
	wantGreatest(t, 200, "func main() { var x = 1; x = E; }")
	wantGreatest(t, 200, "func main() { if E == 1 { } }")
	wantGreatest(t, 199, "func main() { if 1 == E { } }")
	wantGreatest(t, 200, "func main() { while E < 1 { } }")
	wantGreatest(t, 200, "func main() { E; }")
	wantGreatest(t, 200, "func main() { print -E; }")
	wantGreatest(t, 200, "func main() { print E + 1; }")
	wantGreatest(t, 199, "func main() { print 1 + E; }")
	wantGreatest(t, 198, "func main() { print 1 + 1 * E; }")
	wantGreatest(t, 200, "func main() { print true && E == 1; }")
	wantGreatest(t, 200, "func main() { print true || E == 1; }")
	wantGreatest(t, 200, "func main() { g(E, 1); }\nfunc g(a, b) { }")
	wantGreatest(t, 199, "func main() { g(1, E); }\nfunc g(a, b) { }")
}

func TestTheGreatestHeightOfArrays(t *testing.T) {
	wantGreatest(t, 200, "func main() { var a[3]; print a[E]; }")
	wantGreatest(t, 199, "func main() { var a[3]; print 1 + a[E]; }")
	wantGreatest(t, 200, "func main() { var a[3]; a[E] = 1; }")
	wantGreatest(t, 199, "func main() { var a[3]; a[1] = E; }")
	wantGreatest(t, 198, "func main() { var a[3]; a[1] = 1 + E; }")
}

// It is too high wherever it stands, also where nothing leads to.
func TestTooHighWherever(t *testing.T) {
	wantGreatest(t, 200, "func main() { return; print E; }")
	wantGreatest(t, 199, "func main() { while true { var a[3]; break; a[1] = E; } }")
	wantGreatest(t, 200, "func main() { }\nfunc g() int { if true { } else if true { while true { return E; } } }")
	wantGreatest(t, 200, "func main() { print 1; print 2; if true { print 3; } else { print E; } print 4; }")
}

// deep: a text within as many of the same as there may be.
func deep(many int, ahead, text, behind string) string {
	return strings.Repeat(ahead, many) + text + strings.Repeat(behind, many)
}

func TestLongAndDeepPrograms(t *testing.T) {
	wantRun(t, "func main() { print 1"+strings.Repeat(" + 1", 4900)+"; }", 9, nil, api.OK, "4901")
	wantRun(t, "func main() { print true"+strings.Repeat("&&true", 2000)+"; }", 9, nil, api.OK, "true")
	wantRun(t, "func main() { print "+deep(62, "(1 + ", "1", ")")+"; }", 9, nil, api.OK, "63")
	wantRun(t, "func main() { print "+deep(63, "-", "5", "")+"; }", 9, nil, api.OK, "-5")
	wantRun(t, "func main() { var x = 0; "+strings.Repeat("x=x+1;", 998)+" print x; }", 2000, nil, api.OK, "998")
	wantRun(t, "func main() "+deep(63, "{ if true ", "{ print 5; }", "}"), 99, nil, api.OK, "5")
	wantRun(t, "func main() "+deep(63, "{ while true ", "{ print 5; return; }", "}"), 99, nil, api.OK, "5")
	wantRun(t, "func main() { while true "+deep(62, "{ while true ", "{ print 5; break; }", " break; }")+" }", 999, nil, api.OK, "5")
	wantRun(t, "func main() { var x = 61; if x == 0 { print 0; }"+elses(62)+" }", 99, nil, api.OK, "61")
}

// elses: so many ifs, each behind the else of the one ahead.
func elses(many int) string {
	var w strings.Builder
	for n := 1; n <= many; n++ {
		s := strconv.Itoa(n)
		w.WriteString(" else if x == " + s + " { print " + s + "; }")
	}
	return w.String()
}

func TestAsManyAsThereMayBe(t *testing.T) {
	text := "func main() { f1(" + strings.Repeat("1, ", 63) + "1); }"
	want := []string{"31"}
	for n := 1; n < 32; n++ {
		body := "f" + strconv.Itoa(n+1) + "(" + strings.Replace(names(64), "l_", "l_ + 1", 1) + "); print l_;"
		if n == 31 {
			body = "print l_;"
		} else {
			want = append(want, strconv.Itoa(31-n))
		}
		text += "\nfunc f" + strconv.Itoa(n) + "(" + names(64) + ") { " + body + " }"
	}
	wantRun(t, text, 999, nil, api.OK, want...)
	c := made(t, "func main() { var a[64]; }\nfunc f("+names(63)+") { var l_[1]; }")
	if c.Procs[0].Slots != 1 || c.Procs[1].Params != 63 || c.Procs[1].Slots != 64 {
		t.Errorf("P11.1: the procedures are %v", c.Procs)
	}
}
