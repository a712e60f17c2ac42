package code_test

import (
	"math"
	"math/rand"
	"reflect"
	"slices"
	"strings"
	"testing"

	"rewind/api"
	"rewind/code"
)

// writer writes good code by chance, which is the same in every run, and knows its heights by how it writes it.
type writer struct {
	r       *rand.Rand
	c       code.Code
	p       code.Proc // the procedure that is written
	heights []int
	height  int    // of the next instruction; none, if nothing leads to it so far
	open    []next // those that jump to a place that isn't there so far, and the height that it will have
}

func (w *writer) chance(n int) bool { return w.r.Intn(n) == 0 }

func byChance(r *rand.Rand, size int) (code.Code, []int) {
	w := &writer{r: r}
	for n := range 1 + r.Intn(4) {
		slots := r.Intn(5)
		p := code.Proc{Name: []string{"main", "f", "f", "_9"}[n], Slots: slots, Params: r.Intn(slots + 1), Type: []int{1, 4}[r.Intn(2)]}
		w.c.Procs = append(w.c.Procs, p)
	}
	for n := range w.c.Procs {
		w.procedure(n, r.Intn(size))
	}
	return w.c, w.heights
}

func (w *writer) procedure(n, size int) {
	w.p = w.c.Procs[n]
	w.p.From, w.height = len(w.c.List), 0
	for range size {
		w.land()
		w.step()
	}
	w.close()
	w.p.To = len(w.c.List)
	w.c.Procs[n] = w.p
	for at := w.p.From; at < w.p.To; at++ { // those that nothing leads to may lead anywhere
		if x := &w.c.List[at]; w.heights[at] == none && table[x.Op].arg == "a place" {
			x.Arg = w.p.From + w.r.Intn(w.p.To-w.p.From)
		}
	}
}

// put writes an instruction of the height that is due, and goes on with another one.
func (w *writer) put(op, arg, height int) {
	x := code.Instr{Op: op, Arg: arg}
	if op == code.New {
		x.More = 1 + w.r.Intn(api.MaxArray)
	}
	w.c.List = append(w.c.List, x)
	w.heights = append(w.heights, w.height)
	w.height = height
}

// land lets jumps that are open lead here, some of those that may.
func (w *writer) land() {
	for n := len(w.open) - 1; n >= 0; n-- {
		x := w.open[n]
		if w.height == none || w.height == x.height && w.chance(3) {
			w.height = x.height
			w.c.List[x.at].Arg = len(w.c.List)
			w.open = slices.Delete(w.open, n, n+1)
		}
	}
}

func (w *writer) step() {
	op := 1 + w.r.Intn(29)
	if w.chance(3) {
		op = []int{code.Const, code.Load, code.Read}[w.r.Intn(3)]
	}
	r := table[op]
	arg, takes, leaves := 0, r.takes, r.leaves
	switch r.arg {
	case "a statement":
		arg = w.r.Intn(api.MaxStates)
	case "a number":
		arg = int(w.r.Uint64()) >> w.r.Intn(64)
	case "a slot", "a slot (a size)":
		if w.p.Slots == 0 {
			return
		}
		arg = w.r.Intn(w.p.Slots)
	case "a procedure":
		arg = w.r.Intn(len(w.c.Procs))
		takes, leaves = w.c.Procs[arg].Params, btoi(w.c.Procs[arg].Type == api.Int)
	case "a type":
		arg = 1 + w.r.Intn(2)
	case "0 or 1":
		arg = btoi(w.p.Type == api.Int)
		takes = arg
	}
	switch {
	case w.height == none && op == code.Return, op == code.Return && w.height >= takes && w.chance(2):
		w.put(op, arg, none)
	case w.height == none:
		w.put(op, arg, none)
	case op == code.Return || w.height < takes || w.height-takes+leaves > 200:
	case r.arg == "a place":
		w.jump(op, w.height-takes)
	default:
		w.put(op, arg, w.height-takes+leaves)
	}
}

// jump leads to a place that is there already and has the height, or to one that will be there.
func (w *writer) jump(op, height int) {
	there, behind := height, height
	if op == code.And || op == code.Or {
		there++
	}
	if op == code.Jump {
		behind = none
	}
	var fit []int
	for at := w.p.From; at < len(w.c.List); at++ {
		if w.heights[at] == there {
			fit = append(fit, at)
		}
	}
	if len(fit) > 0 && w.chance(2) {
		w.put(op, fit[w.r.Intn(len(fit))], behind)
		return
	}
	w.open = append(w.open, next{len(w.c.List), there})
	w.put(op, 0, behind)
}

// close lets all open jumps lead somewhere, and ends the procedure.
func (w *writer) close() {
	if w.height == none && len(w.open) == 0 && len(w.c.List) > w.p.From {
		return
	}
	if w.height == none {
		w.height = w.open[0].height
	}
	for len(w.open) > 0 {
		at := w.open[0].height
		for w.height < at {
			w.put(code.Read, 0, w.height+1)
		}
		for w.height > at {
			w.put(code.Pop, 0, w.height-1)
		}
		for w.height == at && slices.ContainsFunc(w.open, func(x next) bool { return x.height == at }) {
			w.land()
		}
	}
	if w.p.Type == api.Int && w.height == 0 {
		w.put(code.Read, 0, 1)
	}
	w.put(code.Return, btoi(w.p.Type == api.Int), none)
}

func btoi(b bool) int {
	if b {
		return 1
	}
	return 0
}

func TestGoodCodeByChance(t *testing.T) {
	r := rand.New(rand.NewSource(10))
	ops, none0, high := map[int]int{}, 0, 0
	for n := 0; n < 3000 && !t.Failed(); n++ {
		c, want := byChance(r, 60)
		got, good := code.Heights(c)
		if !good || !slices.Equal(got, want) {
			t.Errorf("P10.1: of %v the heights are %d, %v, want %d", c, got, good, want)
		}
		if words, good := heightsByWords(c); !good || !slices.Equal(words, want) {
			t.Errorf("the words: of %v the heights are %d, %v, want %d", c, words, good, want)
		}
		text := code.Print(c)
		if again, at, e := code.Parse(text); at != 0 || e != api.OK || !reflect.DeepEqual(again, c) {
			t.Errorf("P10.2: Parse(%q): %v, %d, %d, want %v", text, again, at, e, c)
		}
		for at, x := range c.List {
			if want[at] != none {
				ops[x.Op]++
			} else {
				none0++
			}
			high = max(high, want[at])
		}
	}
	for op := code.Mark; op <= code.Pop; op++ {
		if ops[op] < 300 {
			t.Errorf("only %d of the Op %s are led to: %v", ops[op], table[op].word, ops)
		}
	}
	if none0 < 1000 || high < 10 {
		t.Errorf("only %d are led to by none; the greatest height is %d", none0, high)
	}
}

// near: a number in place of another one.
func near(r *rand.Rand, n int) int {
	switch r.Intn(6) {
	case 0:
		return r.Intn(70) - 3
	case 1:
		return []int{math.MinInt, math.MaxInt, -1, 999, 1000, 200, 201}[r.Intn(7)]
	case 2:
		return -n
	}
	return n + r.Intn(7) - 3
}

// changed: code with one thing of another kind.
func changed(r *rand.Rand, c code.Code) code.Code {
	c = code.Code{Procs: slices.Clone(c.Procs), List: slices.Clone(c.List)}
	at := r.Intn(len(c.List))
	n := slices.IndexFunc(c.Procs, func(p code.Proc) bool { return p.From <= at && at < p.To })
	p, x := &c.Procs[max(n, 0)], &c.List[at]
	switch r.Intn(60) {
	case 0:
		p.From = near(r, p.From)
	case 1:
		p.To = near(r, p.To)
	case 2:
		p.Params = near(r, p.Params)
	case 3:
		p.Slots = near(r, p.Slots)
	case 4:
		p.Type = r.Intn(7) - 1
	case 5:
		p.Name = []string{"", "x", "if", "print", "1", "a b", "mark"}[r.Intn(7)]
	case 6:
		x.More = near(r, x.More)
	case 7:
		x.Arg = near(r, x.Arg)
	case 8, 9, 10:
		x.Op = near(r, x.Op)
	case 11, 12, 13:
		c.List = slices.Delete(c.List, at, at+1)
		c.Procs[len(c.Procs)-1].To--
	default:
		changedArg(r, p, x)
	}
	return c
}

// changedArg gives an instruction another Op and an Arg that may often be it.
func changedArg(r *rand.Rand, p *code.Proc, x *code.Instr) {
	if !between(x.Op, 1, 29) || r.Intn(2) == 0 {
		x.Op = 1 + r.Intn(29)
	}
	x.Arg, x.More = r.Intn(3), btoi(x.Op == code.New)
	switch table[x.Op].arg {
	case "0":
		x.Arg = 0
	case "a place":
		x.Arg = p.From + r.Intn(max(p.To-p.From, 1))
	case "0 or 1":
		x.Arg = btoi(p.Type == api.Int)
	}
}

func TestChangedCodeByTheWords(t *testing.T) {
	r := rand.New(rand.NewSource(11))
	good, bad, parts := 0, 0, 0
	for n := 0; n < 30000 && !t.Failed(); n++ {
		c, _ := byChance(r, 15)
		for range 1 + r.Intn(2) {
			if len(c.List) > 0 {
				c = changed(r, c)
			}
		}
		got, ok := code.Heights(c)
		want, wantOK := heightsByWords(c)
		if ok != wantOK || !slices.Equal(got, want) {
			t.Errorf("P10.1: of %v the heights are %d, %v, want %d, %v", c, got, ok, want, wantOK)
		}
		if code.Good(c) != wantOK || (code.Print(c) != "") != wantOK {
			t.Errorf("P10.1: %v is good: %v, and has the text %q, want good %v", c, code.Good(c), code.Print(c), wantOK)
		}
		switch {
		case wantOK:
			good++
		case partsByWords(c):
			bad++
		default:
			parts++
		}
	}
	if good < 3000 || bad < 3000 || parts < 3000 {
		t.Errorf("%d are good, of %d heights are wrong, of %d parts", good, bad, parts)
	}
}

// Each row of some three instructions is held against the words.
func TestSmallCode(t *testing.T) {
	var small []code.Instr
	for op, r := range table {
		switch r.arg {
		case "a place", "a procedure", "0 or 1":
			for arg := -1; arg < 4; arg++ {
				small = append(small, code.Instr{Op: op, Arg: arg})
			}
		default:
			small = append(small, code.Instr{Op: op, Arg: btoi(r.word == "print"), More: btoi(r.word == "new")})
		}
	}
	// One of a shape is enough.
	small = slices.DeleteFunc(small, func(x code.Instr) bool {
		return x.Op > code.Add && x.Op < code.Jump || slices.Contains([]int{0, code.Const, code.LoadAt, code.Neg, code.Or, code.Pop}, x.Op)
	})
	good, all := 0, 0
	list := make([]code.Instr, 4)
	for _, list[0] = range small {
		for _, list[1] = range small {
			for _, list[2] = range small {
				for kind := range 4 {
					c := smallCode(kind, list)
					want, wantOK := heightsByWords(c)
					if got, ok := code.Heights(c); ok != wantOK || !slices.Equal(got, want) {
						t.Fatalf("P10.1: of %v the heights are %d, %v, want %d, %v", c, got, ok, want, wantOK)
					}
					good += btoi(wantOK)
					all++
				}
			}
		}
	}
	if good < 3000 || all-good < 30000 {
		t.Errorf("%d of %d are good", good, all)
	}
}

func smallCode(kind int, list []code.Instr) code.Code {
	main := code.Proc{Name: "main", To: 3, Slots: 1, Type: api.Unit}
	list[3] = code.Instr{Op: code.Return}
	f := code.Proc{Name: "f", From: 3, To: 4, Type: api.Unit}
	switch kind {
	case 0:
		return code.Code{Procs: []code.Proc{main}, List: list[:3]}
	case 1:
		main.Type = api.Int
		return code.Code{Procs: []code.Proc{main, f}, List: list}
	case 2:
		main.To, f.From, f.Slots = 1, 1, 1
		return code.Code{Procs: []code.Proc{main, f}, List: list}
	}
	main.Params = 1
	return code.Code{Procs: []code.Proc{main, f}, List: list}
}

// Whichever ways are chosen, what stands on the stack is as high as Heights says.
func TestHeightsByRuns(t *testing.T) {
	r := rand.New(rand.NewSource(12))
	steps := 0
	for n := 0; n < 2000 && !t.Failed(); n++ {
		c, _ := byChance(r, 60)
		heights, _ := code.Heights(c)
		for _, p := range c.Procs {
			x := next{p.From, 0}
			for range 300 {
				if x.at >= p.To || heights[x.at] != x.height {
					t.Fatalf("P10.1: of %v %d is come to with %d on the stack, Heights says %d", c, x.at, x.height, heights)
				}
				takes, l := onFrom(c, x.at)
				if x.height < takes || x.height > 200 {
					t.Fatalf("P10.1: of %v %d is come to with %d on the stack", c, x.at, x.height)
				}
				if len(l) == 0 {
					break
				}
				y := l[r.Intn(len(l))]
				x = next{y.at, x.height - takes + y.height}
				steps++
			}
		}
	}
	if steps < 30000 {
		t.Errorf("only %d steps", steps)
	}
}

// changedText: a text with some other bytes.
func changedText(r *rand.Rand, s string) string {
	const bytes = "\n\n\n  001234-9 proc mark f\r\x00é"
	b := []byte(s)
	at := r.Intn(len(b))
	x := bytes[r.Intn(len(bytes))]
	switch r.Intn(5) {
	case 0:
		return string(slices.Insert(b, at, x))
	case 1:
		return string(slices.Delete(b, at, at+1))
	case 2:
		b[at] = x
	case 3:
		lines := strings.SplitAfter(s, "\n")
		n := r.Intn(len(lines))
		return strings.Join(slices.Delete(lines, n, n+1), "")
	default:
		lines := strings.SplitAfter(s, "\n")
		return strings.Join(slices.Insert(lines, r.Intn(len(lines)), lines[r.Intn(len(lines))]), "")
	}
	return string(b)
}

func TestTextsByTheWords(t *testing.T) {
	r := rand.New(rand.NewSource(13))
	good, lines, bad := 0, 0, 0
	for n := 0; n < 15000 && !t.Failed(); n++ {
		c, _ := byChance(r, 12)
		text := code.Print(c)
		for range r.Intn(3) {
			if text != "" {
				text = changedText(r, text)
			}
		}
		got, at, e := code.Parse(text)
		want, wantAt, wantE := parseByWords(text)
		if at != wantAt || e != wantE || !reflect.DeepEqual(got, want) {
			t.Errorf("P10.1: Parse(%q): %v, %d, %d, want %v, %d, %d", text, got, at, e, want, wantAt, wantE)
		}
		if e == api.OK && code.Print(got) != text {
			t.Errorf("P10.2: %q is parsed, and has the text %q", text, code.Print(got))
		}
		switch {
		case e == api.OK:
			good++
		case at > strings.Count(text, "\n"):
			bad++
		default:
			lines++
		}
	}
	if good < 2000 || lines < 2000 || bad < 1000 {
		t.Errorf("%d texts are good, of %d a line is wrong, of %d the whole", good, lines, bad)
	}
}
