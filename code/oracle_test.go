package code_test

import (
	"math/big"
	"regexp"
	"slices"
	"strings"

	"rewind/api"
	"rewind/code"
	"rewind/token"
)

// The words once more, as they stand.

// none is the height of what no instruction leads to.
const none = -1

// row: what the chapter's table says of an Op.
type row struct {
	word, arg     string
	takes, leaves int
}

// table has the chapter's table, by Ops. (What hangs on the Arg is none here.)
var table = []row{
	{},
	{"mark", "a statement", 0, 0},
	{"const", "a number", 0, 1},
	{"load", "a slot", 0, 1},
	{"store", "a slot", 1, 0},
	{"loadat", "a slot", 1, 1},
	{"storeat", "a slot", 2, 0},
	{"new", "a slot (a size)", 0, 0},
	{"read", "0", 0, 1},
	{"neg", "0", 1, 1}, {"not", "0", 1, 1},
	{"add", "0", 2, 1}, {"sub", "0", 2, 1}, {"mul", "0", 2, 1}, {"div", "0", 2, 1}, {"mod", "0", 2, 1},
	{"lt", "0", 2, 1}, {"le", "0", 2, 1}, {"gt", "0", 2, 1}, {"ge", "0", 2, 1}, {"eq", "0", 2, 1}, {"ne", "0", 2, 1},
	{"jump", "a place", 0, 0},
	{"jumpnot", "a place", 1, 0},
	{"and", "a place", 1, 0}, {"or", "a place", 1, 0},
	{"call", "a procedure", 0, 0},
	{"return", "0 or 1", 0, 0},
	{"print", "a type", 1, 0},
	{"pop", "0", 1, 0},
}

var words = token.Words()

// isNameByWords: is a text a name, and no word?
func isNameByWords(s string) bool {
	const letters = "abcdefghijklmnopqrstuvwxyzABCDEFGHIJKLMNOPQRSTUVWXYZ_"
	return s != "" && strings.Trim(s, letters+"0123456789") == "" && strings.Contains(letters, s[:1]) && !slices.Contains(words, s)
}

func between(n, least, greatest int) bool { return least <= n && n <= greatest }

// partsByWords: is all good that hangs on no height?
func partsByWords(c code.Code) bool {
	if len(c.Procs) == 0 || c.Procs[0].From != 0 || c.Procs[len(c.Procs)-1].To != len(c.List) {
		return false
	}
	for n, p := range c.Procs {
		if n > 0 && p.From != c.Procs[n-1].To || p.From >= p.To {
			return false
		}
	}
	for _, p := range c.Procs {
		if !between(p.Params, 0, p.Slots) || !between(p.Slots, 0, 64) || p.Type != 1 && p.Type != 4 || !isNameByWords(p.Name) {
			return false
		}
		for at := p.From; at < p.To; at++ {
			if !instructionByWords(c, p, c.List[at]) {
				return false
			}
		}
	}
	return true
}

func instructionByWords(c code.Code, p code.Proc, x code.Instr) bool {
	if !between(x.Op, 1, 29) || x.Op != 7 && x.More != 0 || x.Op == 7 && !between(x.More, 1, 64) {
		return false
	}
	switch table[x.Op].arg {
	case "a statement":
		return between(x.Arg, 0, 999)
	case "a number":
		return true
	case "a slot", "a slot (a size)":
		return between(x.Arg, 0, p.Slots-1)
	case "a place":
		return between(x.Arg, p.From, p.To-1)
	case "a procedure":
		return between(x.Arg, 0, len(c.Procs)-1)
	case "0 or 1":
		return between(x.Arg, 0, 1) && (x.Arg == 1) == (p.Type == 1)
	case "a type":
		return between(x.Arg, 1, 2)
	}
	return x.Arg == 0
}

// next: an instruction, and a height that it may have.
type next struct{ at, height int }

// onFrom: how many an instruction takes, and which may come next, with what it leaves for each.
func onFrom(c code.Code, at int) (int, []next) {
	x := c.List[at]
	r := table[x.Op]
	behind := next{at + 1, r.leaves}
	switch r.word {
	case "jump":
		return r.takes, []next{{x.Arg, 0}}
	case "jumpnot":
		return r.takes, []next{{x.Arg, 0}, behind}
	case "and", "or":
		return r.takes, []next{{x.Arg, 1}, behind}
	case "return":
		return x.Arg, nil
	case "call":
		p := c.Procs[x.Arg]
		if p.Type == api.Int {
			behind.height = 1
		}
		return p.Params, []next{behind}
	}
	return r.takes, []next{behind}
}

// heightsByWords: all heights that instructions get, in whichever way they are led to; then they are looked at.
func heightsByWords(c code.Code) ([]int, bool) {
	if !partsByWords(c) {
		return nil, false
	}
	out, good := slices.Repeat([]int{none}, len(c.List)), true
	for _, p := range c.Procs {
		got, ok := allHeights(c, p)
		good = good && ok
		for x := range got {
			if out[x.at] != none {
				good = false
			}
			out[x.at] = x.height
		}
	}
	if !good {
		return nil, false
	}
	return out, true
}

// allHeights: all heights that a procedure's instructions get, as far as one may go on; and whether one may always.
func allHeights(c code.Code, p code.Proc) (map[next]bool, bool) {
	first := next{p.From, 0}
	got, good := map[next]bool{first: true}, true
	for fresh := []next{first}; len(fresh) > 0; fresh = fresh[1:] {
		x := fresh[0]
		takes, l := onFrom(c, x.at)
		if x.height < takes {
			good = false
			continue
		}
		for _, y := range l {
			y.height += x.height - takes
			if y.at >= p.To || y.height > 200 {
				good = false
			} else if !got[y] {
				got[y] = true
				fresh = append(fresh, y)
			}
		}
	}
	return got, good
}

// lineKind: the kinds of right lines, and the Op of an instruction's.
type lineKind struct {
	form *regexp.Regexp
	op   int // 0: a procedure's
}

var lineKinds = allLineKinds()

func allLineKinds() []lineKind {
	const told = ` (0|-?[1-9][0-9]*)`
	out := []lineKind{{regexp.MustCompile(`^proc ([A-Za-z_][A-Za-z_0-9]*)` + strings.Repeat(told, 3) + `$`), 0}}
	for op, r := range table {
		form := "^" + r.word
		if r.arg != "0" {
			form += told
		}
		if r.word == "new" {
			form += told
		}
		if op > 0 {
			out = append(out, lineKind{regexp.MustCompile(form + "$"), op})
		}
	}
	return out
}

// lineByWords: what a line tells: a procedure or an instruction; nothing, if it is neither.
func lineByWords(s string) (*code.Proc, *code.Instr) {
	for _, k := range lineKinds {
		m := k.form.FindStringSubmatch(s)
		if m == nil {
			continue
		}
		if k.op == 0 {
			n, ok := intsByWords(m[2:])
			if !ok || slices.Contains(words, m[1]) {
				return nil, nil
			}
			return &code.Proc{Name: m[1], Params: n[0], Slots: n[1], Type: n[2]}, nil
		}
		n, ok := intsByWords(m[1:])
		if !ok {
			return nil, nil
		}
		n = append(n, 0, 0)
		return nil, &code.Instr{Op: k.op, Arg: n[0], More: n[1]}
	}
	return nil, nil
}

func intsByWords(l []string) ([]int, bool) {
	var out []int
	for _, s := range l {
		n, ok := new(big.Int).SetString(s, 10)
		if !ok || !n.IsInt64() {
			return nil, false
		}
		out = append(out, int(n.Int64()))
	}
	return out, true
}

// parseByWords reads all lines first, and then looks for the first one that is wrong.
func parseByWords(s string) (code.Code, int, api.Errno) {
	if len(s) > 200000 {
		return code.Code{}, 0, api.ErrLong
	}
	lines := strings.SplitAfter(s, "\n")
	if lines[len(lines)-1] == "" {
		lines = lines[:len(lines)-1]
	}
	var c code.Code
	for n, line := range lines {
		p, x := lineByWords(strings.TrimSuffix(line, "\n"))
		switch {
		case !strings.HasSuffix(line, "\n"), p == nil && x == nil, x != nil && len(c.Procs) == 0:
			return code.Code{}, n + 1, api.ErrParse
		case p != nil:
			p.From = len(c.List)
			c.Procs = append(c.Procs, *p)
		default:
			c.List = append(c.List, *x)
		}
		c.Procs[len(c.Procs)-1].To = len(c.List)
	}
	if _, good := heightsByWords(c); !good {
		return code.Code{}, len(lines) + 1, api.ErrParse
	}
	return c, 0, api.OK
}
