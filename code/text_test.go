package code_test

import (
	"math"
	"reflect"
	"slices"
	"strconv"
	"strings"
	"testing"

	"rewind/api"
	"rewind/code"
)

const main0 = "proc main 0 0 4\n"

// all has each Op once at least, of a procedure that answers something, and one that answers nothing.
const all = "proc main 0 3 4\n" +
	"mark 0\nconst -7\nstore 0\nload 0\nnew 2 64\nloadat 2\nread\nstoreat 2\n" +
	"read\nneg\nread\nadd\nread\nsub\nread\nmul\nread\ndiv\nread\nmod\nprint 1\n" +
	"read\nread\nlt\nnot\nread\nle\nread\ngt\nread\nge\nread\neq\nread\nne\nprint 2\n" +
	"read\nand 39\nread\nor 41\nread\njumpnot 43\njump 46\nconst 9223372036854775807\ncall 1\npop\nreturn 0\n" +
	"proc f_2 1 1 1\nconst -9223372036854775808\nreturn 1\nmark 999\n"

func TestAllOps(t *testing.T) {
	c := parsed(t, all)
	if s := code.Print(c); s != all {
		t.Errorf("P10.2: Print: %q, want %q", s, all)
	}
	for op := code.Mark; op <= code.Pop; op++ {
		if !slices.ContainsFunc(c.List, func(x code.Instr) bool { return x.Op == op }) {
			t.Errorf("P10.1: there is no %s", table[op].word)
		}
	}
	wantHeights(t, all, "0 0 1 0 1 1 1 2 0 1 1 2 1 2 1 2 1 2 1 2 1 0 1 2 1 1 2 1 2 1 2 1 2 1 2 1 0 1 0 1 0 1 0 0 1 1 0 0 1 -1")
}

func TestLines(t *testing.T) {
	for _, x := range []struct {
		line string
		want code.Instr
	}{
		{"mark 999", code.Instr{Op: 1, Arg: 999}},
		{"const -12", code.Instr{Op: 2, Arg: -12}},
		{"load 3", code.Instr{Op: 3, Arg: 3}},
		{"store 2", code.Instr{Op: 4, Arg: 2}},
		{"loadat 1", code.Instr{Op: 5, Arg: 1}},
		{"storeat 3", code.Instr{Op: 6, Arg: 3}},
		{"new 3 64", code.Instr{Op: 7, Arg: 3, More: 64}},
		{"read", code.Instr{Op: 8}},
		{"neg", code.Instr{Op: 9}},
		{"not", code.Instr{Op: 10}},
		{"add", code.Instr{Op: 11}},
		{"sub", code.Instr{Op: 12}},
		{"mul", code.Instr{Op: 13}},
		{"div", code.Instr{Op: 14}},
		{"mod", code.Instr{Op: 15}},
		{"lt", code.Instr{Op: 16}},
		{"le", code.Instr{Op: 17}},
		{"gt", code.Instr{Op: 18}},
		{"ge", code.Instr{Op: 19}},
		{"eq", code.Instr{Op: 20}},
		{"ne", code.Instr{Op: 21}},
		{"jump 3", code.Instr{Op: 22, Arg: 3}},
		{"jumpnot 2", code.Instr{Op: 23, Arg: 2}},
		{"and 3", code.Instr{Op: 24, Arg: 3}},
		{"or 2", code.Instr{Op: 25, Arg: 2}},
		{"call 1", code.Instr{Op: 26, Arg: 1}},
		{"return 0", code.Instr{Op: 27}},
		{"print 2", code.Instr{Op: 28, Arg: 2}},
		{"pop", code.Instr{Op: 29}},
	} {
		text := "proc f 1 1 1\nread\nreturn 1\n" + "proc main 2 4 4\nreturn 0\n" + x.line + "\n"
		c := parsed(t, text)
		want := code.Code{
			Procs: []code.Proc{{Name: "f", From: 0, To: 2, Params: 1, Slots: 1, Type: 1}, {Name: "main", From: 2, To: 4, Params: 2, Slots: 4, Type: 4}},
			List:  []code.Instr{{Op: 8}, {Op: 27, Arg: 1}, {Op: 27}, x.want},
		}
		if !reflect.DeepEqual(c, want) {
			t.Errorf("P10.1: Parse(%q): %v, want %v", text, c, want)
		}
		if s := code.Print(want); s != text {
			t.Errorf("P10.1: Print(%v): %q, want %q", want, s, text)
		}
	}
}

func TestNumbersAsTold(t *testing.T) {
	for _, n := range []int{0, 1, -1, 9, 10, -10, 100, 1 << 31, -1 << 31, 1 << 53, math.MaxInt - 1, math.MaxInt, math.MinInt + 1, math.MinInt} {
		text := main0 + "const " + strconv.Itoa(n) + "\nreturn 0\n"
		if c := parsed(t, text); c.List[0].Arg != n || code.Print(c) != text {
			t.Errorf("P10.2: const %d: %v", n, c)
		}
	}
	for _, s := range []string{"", "-", "+1", "-0", "+0", "00", "01", "-01", "007", "1_0", "0x1", "0b1", "0o7", "1e3", "1.0", "1.", ".5", "--1", "a", "1a", " 1", "\t1", "1\t", "1\r", "1\x00", "١", "\u22121", "9223372036854775808", "-9223372036854775809", "18446744073709551616", strings.Repeat("9", 1000), strings.Repeat("0", 1000), "true", "NaN", "nil"} {
		wantFault(t, main0+"const "+s+"\nreturn 0\n", 2)
		wantFault(t, main0+"new "+s+" 1\nreturn 0\n", 2)
		wantFault(t, main0+"return 0\nnew 0 "+s+"\n", 3)
		wantFault(t, "proc main "+s+" 0 4\nreturn 0\n", 1)
		wantFault(t, "proc main 0 "+s+" 4\nreturn 0\n", 1)
		wantFault(t, main0+"return 0\nproc f 0 0 "+s+"\nreturn 0\n", 3)
	}
}

func TestParts(t *testing.T) {
	for _, r := range table[1:] {
		numbers := map[string]int{"0": 0, "a slot (a size)": 2}
		many, ok := numbers[r.arg]
		if !ok {
			many = 1
		}
		for n := range 5 {
			for _, text := range []string{main0 + "return 0\n", main0 + "return 0\nproc f 0 0 4\nreturn 0\n"} {
				line := r.word + strings.Repeat(" 0", n)
				_, at, e := code.Parse(text + line + "\n" + "halt\n")
				want := strings.Count(text, "\n") + 1
				if n == many {
					want++
				}
				if at != want || e != api.ErrParse {
					t.Errorf("P10.1: the line %q: %d, %d, want %d", line, at, e, want)
				}
			}
		}
		line := strings.TrimSuffix(r.word+strings.Repeat(" 0", many), " ")
		for _, wrong := range []string{" " + line, line + " ", "\t" + line, line + "\t", line + "\r", line + "\x00", strings.ToUpper(line), strings.Replace(line, " ", "  ", 1), strings.Replace(line, " ", "\t", 1), strings.Replace(line, " ", "", 1), line + " x", line[1:], r.word + "s", "x" + line} {
			if wrong != line {
				wantFault(t, main0+"return 0\n"+wrong+"\n", 3)
			}
		}
	}
	for _, wrong := range []string{"proc", "proc ", "proc f", "proc f 0", "proc f 0 0", "proc f 0 0 4 ", "proc f 0 0 4 0", " proc f 0 0 4", "proc  f 0 0 4", "proc f 0  0 4", "proc f 0 0  4", "proc 0 0 4", "proc 0 0 0 4", "proc\tf 0 0 4", "proc f 0 0 4\r", "Proc f 0 0 4", "procf 0 0 4", "f 0 0 4", "pro f 0 0 4"} {
		wantFault(t, wrong+"\nreturn 0\n", 1)
		wantFault(t, main0+"return 0\n"+wrong+"\nreturn 0\n", 3)
	}
	for _, wrong := range []string{"", " ", "  ", "\t", "\r", "0", "27 0", "halt", "#", "# mark", "\x00", "é", "print1 1", "Mark 0"} {
		wantFault(t, wrong+"\n", 1)
		wantFault(t, main0+wrong+"\nreturn 0\n", 2)
		wantFault(t, main0+"return 0\n"+wrong+"\n", 3)
	}
}

// The first line that is wrong is told, whatever is wrong behind it, and whether the code is good or not.
func TestTheFirstLine(t *testing.T) {
	wantFault(t, "", 1)
	wantFault(t, "\n", 1)
	wantFault(t, "\n\n\n", 1)
	wantFault(t, "return 0\n", 1)
	wantFault(t, "return 0\n"+main0+"return 0\n", 1)
	wantFault(t, "halt\nhalt\n", 1)
	wantFault(t, main0, 2)
	wantFault(t, main0+"\n", 2)
	wantFault(t, main0+"return 0\n\n", 3)
	wantFault(t, main0+"return 1\nload 9\nhalt\nhalt\n", 4)
	wantFault(t, main0+main0+main0+"add 1\n", 4)
	wantFault(t, main0+main0+main0+"add\n", 5)
	wantFault(t, "proc main 9 8 7\nadd\nhalt", 3)
	wantFault(t, "proc main 9 8 7\nadd\n", 3)
}

// Each line ends with the byte 10.
func TestLinesEnd(t *testing.T) {
	wantFault(t, "proc main 0 0 4", 1)
	wantFault(t, main0+"return 0", 2)
	wantFault(t, main0+"return 0\nmark 0", 3)
	wantFault(t, main0+"return 0\n ", 3)
	wantFault(t, main0+"return 0\n\x00", 3)
	wantFault(t, main0+"return 0\r", 2)
	wantFault(t, main0+"return 0\r\n", 2)
	wantFault(t, main0+"add\nhalt", 3)
	for n := range len(all) {
		want := strings.Count(all[:n], "\n") + 1
		if _, at, e := code.Parse(all[:n]); at != want && e != api.OK || e != api.OK && e != api.ErrParse {
			t.Errorf("P10.1: Parse(%q): %d, %d, want %d", all[:n], at, e, want)
		}
	}
}

func TestLongTexts(t *testing.T) {
	// long: a right text of so many bytes.
	long := func(bytes int) string {
		const line = "mark 0\n"
		left := bytes - len(main0) - len("return 0\n")
		n := left/len(line) - 2
		text := main0 + "return 0\n" + strings.Repeat(line, n)
		return text + "const " + strings.Repeat("1", 10+left%len(line)-3) + "\n"
	}
	for bytes := 199990; bytes <= 200000; bytes++ {
		text := long(bytes)
		if c := parsed(t, text); len(text) != bytes || code.Print(c) != text {
			t.Errorf("P10.2: a text of %d bytes (%d)", len(text), bytes)
		}
	}
	for _, text := range []string{long(200001), long(200002), long(300000), strings.Repeat("\n", 200001), strings.Repeat("x", 200001), strings.Repeat(" ", 1<<20)} {
		if c, n, e := code.Parse(text); n != 0 || e != api.ErrLong || len(c.Procs) > 0 || len(c.List) > 0 {
			t.Errorf("P10.1: a text of %d bytes: %d, %d, want 0, %d", len(text), n, e, api.ErrLong)
		}
	}
	wantFault(t, strings.Repeat("\n", 200000), 1)
	wantFault(t, strings.Repeat(" ", 200000), 1)
	wantFault(t, main0+strings.Repeat(" ", 199900)+"\n", 2)
	wantFault(t, strings.Repeat("proc f 0 0 4\n", 15000), 15001)
	text := strings.Repeat("proc f 0 0 4\nreturn 0\n", 9090)
	if c := parsed(t, text); len(c.Procs) != 9090 || code.Print(c) != text {
		t.Errorf("P10.2: of 9090 procedures there are %d", len(c.Procs))
	}
	// Good code may have a text that is too long.
	c := parsed(t, long(200000))
	c.Procs[0].Name = "main_"
	if _, n, e := code.Parse(code.Print(c)); n != 0 || e != api.ErrLong {
		t.Errorf("P10.1: good code's text of 200001 bytes: %d, %d", n, e)
	}
}
