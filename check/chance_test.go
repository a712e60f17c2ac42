package check_test

import (
	"math/rand"
	"reflect"
	"slices"
	"strconv"
	"strings"
	"testing"

	"rewind/api"
	"rewind/check"
	"rewind/print"
	"rewind/syntax"
)

// known: a name, or a function, that the writer knows.
type known struct {
	text         string
	kind, params int
}

// writer writes programs by chance, which are the same in every run. What it writes fits, but where it is wild.
type writer struct {
	r      *rand.Rand
	out    strings.Builder
	pool   []string
	funcs  []known
	blocks [][]known
	now    known
	whiles int
	left   int // how much more is written
	ends   int // behind one of how many statements a block ends
	wild   int // one of how many things is; 0: none
}

func (w *writer) chance(n int) bool { return n > 0 && w.r.Intn(n) == 0 }

func (w *writer) isWild() bool { return w.chance(w.wild) }

func (w *writer) put(l ...string) {
	for _, s := range l {
		w.out.WriteString(s)
	}
}

func (w *writer) pick(l ...string) string { return l[w.r.Intn(len(l))] }

func byChance(r *rand.Rand) string {
	w := &writer{r: r, pool: strings.Fields("x y z a b f main _"), left: r.Intn(120), ends: 8, wild: []int{0, 0, 300, 60, 15, 6}[r.Intn(6)]}
	if w.chance(12) {
		w.left, w.ends, w.pool = 700, 100, strings.Fields(times(100, "N", " "))
	}
	w.funcs = []known{{text: "main", kind: api.Unit}}
	for _, s := range strings.Fields("f g x main1")[:r.Intn(5)] {
		w.funcs = append(w.funcs, known{s, []int{api.Int, api.Unit}[r.Intn(2)], r.Intn(4)})
	}
	if w.wild > 0 && w.chance(10) {
		one, two := r.Intn(len(w.funcs)), r.Intn(len(w.funcs))
		w.funcs[one].text = w.funcs[two].text
	}
	if w.wild > 0 && w.chance(10) {
		r.Shuffle(len(w.funcs), func(i, j int) { w.funcs[i], w.funcs[j] = w.funcs[j], w.funcs[i] })
	}
	for _, f := range w.funcs {
		w.function(f)
	}
	return w.out.String()
}

func (w *writer) function(f known) {
	w.now, w.whiles = f, 0
	var params []known
	for i := range f.params {
		params = append(params, known{w.pool[i], api.Int, 0})
		if w.isWild() {
			params[i].text = w.pick(w.pool...)
		}
	}
	w.put("func ", f.text, "(")
	for i, p := range params {
		if i > 0 {
			w.put(", ")
		}
		w.put(p.text)
	}
	w.put(") ")
	if f.kind == api.Int {
		w.put("int ")
	}
	w.blocks = nil
	w.block(params)
	w.put("\n")
}

func (w *writer) block(names []known) {
	w.blocks = append(w.blocks, names)
	w.put("{ ")
	for w.left > 0 && !w.chance(w.ends) {
		w.statement()
	}
	w.put("} ")
	w.blocks = w.blocks[:len(w.blocks)-1]
}

// seen: the names of some types that stand here.
func (w *writer) seen(kinds ...int) []known {
	var out []known
	hidden := map[string]int{}
	for _, block := range slices.Backward(w.blocks) {
		for _, k := range block {
			if hidden[k.text] == 0 && slices.Contains(kinds, k.kind) {
				out = append(out, k)
			}
		}
		for _, k := range block {
			hidden[k.text]++
		}
	}
	return out
}

// one: a name of some types that stands here; wild: any name.
func (w *writer) one(kinds ...int) (known, bool) {
	if w.isWild() {
		return known{w.pick(w.pool...), kinds[0], 0}, true
	}
	l := w.seen(kinds...)
	if len(l) == 0 {
		return known{}, false
	}
	return l[w.r.Intn(len(l))], true
}

// fresh: a name that isn't in the block; wild: any name.
func (w *writer) fresh() (string, bool) {
	s, wild := w.pick(w.pool...), w.isWild()
	block := w.blocks[len(w.blocks)-1]
	return s, wild || !slices.ContainsFunc(block, func(k known) bool { return k.text == s })
}

func (w *writer) know(text string, kind int) {
	last := len(w.blocks) - 1
	w.blocks[last] = append(slices.Clone(w.blocks[last]), known{text, kind, 0})
}

func (w *writer) anyKind() int { return []int{api.Int, api.Bool}[w.r.Intn(2)] }

func (w *writer) statement() {
	w.left--
	switch w.r.Intn(10) {
	case 0:
		w.choice()
	case 1:
		w.put("while ")
		w.expr(api.Bool)
		w.whiles++
		w.block(nil)
		w.whiles--
	case 2, 3, 4:
		w.declare()
	case 5:
		w.jump()
	case 6:
		w.callAlone()
	case 7, 8:
		w.change()
	default:
		w.put("print ")
		w.expr(w.anyKind())
		w.put("; ")
	}
}

func (w *writer) choice() {
	w.put("if ")
	w.expr(api.Bool)
	w.block(nil)
	switch w.r.Intn(4) {
	case 0:
		w.put("else ")
		w.block(nil)
	case 1:
		w.put("else ")
		w.choice()
	}
}

func (w *writer) declare() {
	text, ok := w.fresh()
	if !ok {
		return
	}
	if w.chance(2) {
		kind := w.anyKind()
		w.put("var ", text, " = ")
		w.expr(kind)
		w.know(text, kind)
	} else {
		size := 1 + w.r.Intn(api.MaxArray)
		if w.isWild() {
			size = []int{0, 64, 65, 66}[w.r.Intn(4)]
		}
		w.put("var ", text, "[", strconv.Itoa(size), "]")
		w.know(text, api.List)
	}
	w.put("; ")
}

func (w *writer) jump() {
	switch w.r.Intn(3) {
	case 0:
		w.put("return")
		if (w.now.kind == api.Int) != w.isWild() {
			w.put(" ")
			w.expr(api.Int)
		}
		w.put("; ")
	default:
		if w.whiles > 0 || w.isWild() {
			w.put(w.pick("break; ", "continue; "))
		}
	}
}

func (w *writer) callAlone() {
	if w.call(api.Int, api.Unit) {
		w.put("; ")
	}
}

func (w *writer) change() {
	if k, ok := w.one(api.Int, api.Bool); ok && w.chance(2) {
		w.put(k.text, " = ")
		w.expr(k.kind)
		w.put("; ")
	} else if k, ok := w.one(api.List); ok {
		w.put(k.text, "[")
		w.expr(api.Int)
		w.put("] = ")
		w.expr(api.Int)
		w.put("; ")
	}
}

// call writes one of a function of some types; false: there is none.
func (w *writer) call(kinds ...int) bool {
	var l []known
	for _, f := range w.funcs {
		if slices.Contains(kinds, f.kind) {
			l = append(l, f)
		}
	}
	if len(l) == 0 {
		return false
	}
	f := l[w.r.Intn(len(l))]
	if w.isWild() {
		f.text = w.pick(w.pool...)
	}
	if w.isWild() {
		f.params = w.r.Intn(4)
	}
	w.put(f.text, "(")
	for i := range f.params {
		if i > 0 {
			w.put(", ")
		}
		w.expr(api.Int)
	}
	w.put(")")
	return true
}

func (w *writer) expr(kind int) {
	w.left--
	if w.isWild() {
		kind = []int{api.Int, api.Bool, api.Unit, api.Unit}[w.r.Intn(4)]
	}
	if kind == api.Unit && w.call(api.Unit) {
		return
	}
	if k, ok := w.one(kind); ok && w.chance(3) {
		w.put(k.text)
		return
	}
	switch {
	case w.left < 0 || w.chance(3):
		w.single(kind)
	case w.chance(4):
		w.put(map[int]string{api.Int: "-", api.Bool: "!"}[kind])
		w.expr(kind)
	case kind == api.Bool:
		w.bools()
	default:
		w.ints()
	}
}

func (w *writer) single(kind int) {
	if kind == api.Bool {
		w.put(w.pick("true", "false"))
	} else {
		w.put(w.pick("0", "1", "7", "read"))
	}
}

func (w *writer) bools() {
	switch w.r.Intn(3) {
	case 0:
		w.pair(api.Int, "<", "<=", ">", ">=")
	case 1:
		w.pair(w.anyKind(), "==", "!=")
	default:
		w.pair(api.Bool, "&&", "||")
	}
}

func (w *writer) ints() {
	if k, ok := w.one(api.List); ok && w.chance(2) {
		w.put(k.text, "[")
		w.expr(api.Int)
		w.put("]")
	} else if !w.chance(2) || !w.call(api.Int) {
		w.pair(api.Int, "+", "-", "*", "/", "%")
	}
}

// pair has brackets around it, so that its parts are what they are meant to be.
func (w *writer) pair(kind int, signs ...string) {
	w.put("(")
	w.expr(kind)
	w.put(" ", w.pick(signs...), " ")
	w.expr(kind)
	w.put(")")
}

// wantOracle: Check answers what the oracle does; it tells the error, and how many things are wrong.
func wantOracle(t *testing.T, text string) (api.Errno, int) {
	t.Helper()
	p := parsed(t, text)
	want, place, e, wrong := newOracle(p).answer()
	info, at, got := check.Check(p)
	if at != place || got != e {
		t.Errorf("P6.1: Check of\n%s: %d, %d, want %d, %d", text, at, got, place, e)
	} else if !reflect.DeepEqual(full(info), full(want)) {
		t.Errorf("P6.1: Check of\n%s:\n%+v, want\n%+v", text, full(info), full(want))
	}
	if e == api.OK {
		wantFitting(t, p, info)
		wantAlikePrinted(t, p, info)
	}
	return e, wrong
}

// wantFitting: each name's slot is of its function, and of the type that the expression has.
func wantFitting(t *testing.T, p api.Tree, info check.Info) {
	t.Helper()
	o := newOracle(p)
	for at, x := range p.Exprs {
		slots := info.Slots[o.lists[o.of[at]].function]
		switch slot := info.Slot[at]; x.Kind {
		case api.EName:
			if slot < 0 || slot >= len(slots) || slots[slot] != info.Type[at] {
				t.Errorf("P6.2: the name %d has the type %d, and the slot %d of %d", at, info.Type[at], slot, slots)
			}
		case api.EIndex:
			if slot < 0 || slot >= len(slots) || slots[slot] != api.List {
				t.Errorf("P6.2: the index %d has the slot %d of %d", at, slot, slots)
			}
		}
	}
	for at, s := range p.Stmts {
		slots := info.Slots[info.Func[at]]
		if slot := info.Put[at]; s.Name == "" && slot != -1 || s.Name != "" && (slot < 0 || slot >= len(slots)) {
			t.Errorf("P6.2: the statement %d, of the name %q, has the slot %d of %d", at, s.Name, slot, slots)
		} else if (s.Kind == api.SVar || s.Kind == api.SSet) && slots[slot] != info.Type[s.A] {
			t.Errorf("P6.2: the statement %d has the type %d, and the slot %d of %d", at, info.Type[s.A], slot, slots)
		}
	}
}

// wantAlikePrinted: spans play no part in what is known of a program.
func wantAlikePrinted(t *testing.T, p api.Tree, info check.Info) {
	t.Helper()
	q, _, e := syntax.Parse(print.Print(p))
	if e == api.ErrLong {
		return
	}
	again, at, e := check.Check(q)
	if e != api.OK || !reflect.DeepEqual(full(again), full(info)) {
		t.Errorf("P6.1: Check of a printed program: %d, %d,\n%+v, want\n%+v", at, e, full(again), full(info))
	}
}

func TestProgramsByChance(t *testing.T) {
	r := rand.New(rand.NewSource(6))
	counts := map[api.Errno]int{}
	several := 0
	for n := 0; n < 8000 && !t.Failed(); {
		text := byChance(r)
		if _, _, e := syntax.Parse(text); e != api.OK {
			continue
		}
		n++
		e, wrong := wantOracle(t, text)
		counts[e]++
		if wrong > 1 {
			several++
		}
	}
	for _, e := range []api.Errno{api.OK, api.ErrName, api.ErrTwice, api.ErrType, api.ErrJump, api.ErrMany, api.ErrRange, api.ErrNone} {
		if counts[e] < 40 {
			t.Errorf("of programs by chance only %d have the error %d: %v", counts[e], e, counts)
		}
	}
	if several < 1000 {
		t.Errorf("in only %d of programs by chance several things are wrong", several)
	}
}
