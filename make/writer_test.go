package make_test

import (
	"math/rand"
	"slices"
	"strconv"
	"strings"

	"rewind/api"
)

// known: a name that stands where the writer is, or a function.
type known struct {
	text         string
	kind, params int
	size         int // an array's
}

// writer writes right programs by chance, which are the same in every run, and of which most do much ahead of their end.
type writer struct {
	r      *rand.Rand
	out    strings.Builder
	funcs  []known
	blocks [][]known
	now    known
	whiles int
	left   int // how many statements more it writes
	ends   int // behind one of how many statements a block ends
	size   int // how large expressions are
}

func byChance(r *rand.Rand) string {
	w := &writer{r: r, left: 3 + r.Intn(60), ends: 3 + r.Intn(8), size: 1 + r.Intn(6)}
	w.funcs = []known{{text: "main", kind: api.Unit}}
	for _, s := range strings.Fields("f g h k")[:r.Intn(5)] {
		w.funcs = append(w.funcs, known{text: s, kind: []int{api.Int, api.Unit}[r.Intn(2)], params: r.Intn(4)})
	}
	for _, f := range w.funcs {
		w.function(f)
	}
	return w.out.String()
}

func (w *writer) put(l ...string) { w.out.WriteString(strings.Join(l, "")) }

func (w *writer) chance(n int) bool { return w.r.Intn(n) == 0 }

func (w *writer) pick(l ...string) string { return l[w.r.Intn(len(l))] }

func (w *writer) anyKind() int { return []int{api.Int, api.Bool}[w.r.Intn(2)] }

func (w *writer) function(f known) {
	w.now, w.whiles, w.blocks = f, 0, nil
	var params []known
	var names []string
	for n := range f.params {
		params = append(params, known{text: "p" + strconv.Itoa(n), kind: api.Int})
		names = append(names, params[n].text)
	}
	w.put("func ", f.text, "(", strings.Join(names, ", "), ") ")
	if f.kind == api.Int {
		w.put("int ")
	}
	if f.text == "main" && w.chance(2) {
		// That it comes again lets more happen.
		w.blocks = [][]known{nil}
		w.whiles = 1
		w.put("{ while true ")
		w.block(nil)
		w.put("}\n")
		return
	}
	w.block(params)
	w.put("\n")
}

func (w *writer) block(names []known) {
	w.blocks = append(w.blocks, names)
	w.put("{ ")
	for w.left > 0 && len(w.blocks) < 12 {
		w.left--
		w.statement()
		if w.chance(w.ends) {
			break
		}
	}
	w.put("} ")
	w.blocks = w.blocks[:len(w.blocks)-1]
}

// seen: the names of a kind that stand here.
func (w *writer) seen(kind int) []known {
	var out []known
	hidden := map[string]int{}
	for _, block := range slices.Backward(w.blocks) {
		for _, k := range block {
			if hidden[k.text] == 0 && k.kind == kind {
				out = append(out, k)
			}
		}
		for _, k := range block {
			hidden[k.text]++
		}
	}
	return out
}

func (w *writer) statement() {
	switch w.r.Intn(13) {
	case 0, 1:
		w.choice()
	case 2, 3:
		w.put("while ")
		w.expr(api.Bool, w.size)
		w.whiles++
		w.block(nil)
		w.whiles--
	case 4, 5, 6:
		w.declare()
	case 7:
		w.jump()
	case 8:
		if w.call(w.size, api.Int, api.Unit) {
			w.put("; ")
		}
	case 9, 10:
		w.change()
	default:
		w.put("print ")
		w.expr(w.anyKind(), w.size)
		w.put("; ")
	}
}

func (w *writer) choice() {
	w.put("if ")
	w.expr(api.Bool, w.size)
	w.block(nil)
	switch w.r.Intn(4) {
	case 0, 1:
		w.put("else ")
		w.block(nil)
	case 2:
		w.put("else ")
		w.choice()
	}
}

func (w *writer) declare() {
	text, last := w.pick("x", "y", "z", "a", "b"), len(w.blocks)-1
	if slices.ContainsFunc(w.blocks[last], func(k known) bool { return k.text == text }) {
		return
	}
	k := known{text: text, kind: []int{api.Int, api.Bool, api.List}[w.r.Intn(3)], size: 1 + w.r.Intn(4)}
	if k.kind == api.List {
		w.put("var ", text, "[", strconv.Itoa(k.size), "]")
	} else {
		w.put("var ", text, " = ")
		w.expr(k.kind, w.size)
	}
	w.put("; ")
	w.blocks[last] = append(slices.Clone(w.blocks[last]), k)
}

func (w *writer) jump() {
	switch {
	case w.whiles > 0 && !w.chance(3):
		w.put(w.pick("break; ", "continue; "))
	case w.chance(2):
	case w.now.kind == api.Int:
		w.put("return ")
		w.expr(api.Int, w.size)
		w.put("; ")
	case w.now.text != "main" || w.chance(4):
		w.put("return; ")
	}
}

func (w *writer) change() {
	if l := w.seen(w.anyKind()); len(l) > 0 && w.chance(2) {
		k := l[w.r.Intn(len(l))]
		w.put(k.text, " = ")
		w.expr(k.kind, w.size)
		w.put("; ")
	} else if l := w.seen(api.List); len(l) > 0 {
		w.element(l, w.size)
		w.put(" = ")
		w.expr(api.Int, w.size)
		w.put("; ")
	}
}

// element writes an array's, mostly one that there is.
func (w *writer) element(l []known, size int) {
	k := l[w.r.Intn(len(l))]
	w.put(k.text, "[")
	if w.chance(20) {
		w.expr(api.Int, size-1)
	} else {
		w.put(strconv.Itoa(w.r.Intn(k.size)))
	}
	w.put("]")
}

// call writes one of a function of some types; false: there is none.
func (w *writer) call(size int, kinds ...int) bool {
	var l []known
	for _, f := range w.funcs {
		if slices.Contains(kinds, f.kind) {
			l = append(l, f)
		}
	}
	if len(l) == 0 {
		return false
	}
	f := l[w.r.Intn(len(l))]
	w.put(f.text, "(")
	for n := range f.params {
		if n > 0 {
			w.put(", ")
		}
		w.expr(api.Int, size-1)
	}
	w.put(")")
	return true
}

func (w *writer) expr(kind, size int) {
	l := w.seen(kind)
	switch {
	case len(l) > 0 && w.chance(3):
		w.put(l[w.r.Intn(len(l))].text)
	case size <= 0 || w.chance(4):
		w.single(kind)
	case w.chance(5):
		w.put(map[int]string{api.Int: "-", api.Bool: "!"}[kind])
		w.expr(kind, size-1)
	case kind == api.Bool:
		w.bools(size)
	default:
		w.ints(size)
	}
}

func (w *writer) single(kind int) {
	if kind == api.Bool {
		w.put(w.pick("true", "false"))
	} else {
		w.put(w.pick("0", "1", "2", "7", "read", "999999999999999999"))
	}
}

func (w *writer) bools(size int) {
	switch w.r.Intn(4) {
	case 0:
		w.pair(api.Int, size, "<", "<=", ">", ">=")
	case 1:
		w.pair(w.anyKind(), size, "==", "!=")
	default:
		w.pair(api.Bool, size, "&&", "||")
	}
}

func (w *writer) ints(size int) {
	if l := w.seen(api.List); len(l) > 0 && w.chance(2) {
		w.element(l, size)
		return
	}
	if w.chance(4) && w.call(size, api.Int) {
		return
	}
	if w.chance(6) {
		w.put("(")
		w.expr(api.Int, size-1)
		w.put(w.pick(" / ", " % "), w.pick("1", "2", "3", "-1", "-2", "7", "0"), ")")
		return
	}
	w.pair(api.Int, size, "+", "-", "*")
}

// pair has brackets around it, so that its parts are what they are meant to be.
func (w *writer) pair(kind, size int, signs ...string) {
	w.put("(")
	w.expr(kind, size-1)
	w.put(" ", w.pick(signs...), " ")
	w.expr(kind, size-1)
	w.put(")")
}
