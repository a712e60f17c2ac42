package desk_test

import (
	"slices"
	"strings"
	"testing"

	"rewind/api"
	"rewind/check"
	"rewind/desk"
	"rewind/flow"
	"rewind/graph"
	"rewind/mach"
	"rewind/make"
	"rewind/order"
	"rewind/slice"
	"rewind/trace"
	"rewind/world"
)

// The words once more, as they stand.

// words: a program, all that it did, and where a desk is.
type words struct {
	slice.Source
	moments []moment
	touches []mach.Touch // all, as they happened
	at      int
	breaks  map[int]bool
	watches map[mach.Spot]bool
	closed  bool
}

// moment: a record, as it begins.
type moment struct {
	frames  []mach.Frame
	touched int // how many touches had happened
}

func wordsOf(t *testing.T, text string, w world.World) *words {
	t.Helper()
	p, info := checked(t, text)
	c, e := make.Make(p, info)
	if e != api.OK {
		t.Fatal(e)
	}
	out := &words{Source: slice.Source{Text: text, Tree: p, Info: info, Flow: flow.Of(p)}, breaks: map[int]bool{}, watches: map[mach.Spot]bool{}}
	out.Graph, _ = graph.New(c, w, out.Flow, 17, 5)
	out.Trace, _ = trace.Of(c, w)
	m, e := mach.New(c, w)
	if e != api.OK {
		t.Fatal(e)
	}
	for m.Next() {
		out.touches = append(out.touches, m.Touches()...)
		out.moments = append(out.moments, moment{m.Frames(), len(out.touches)})
	}
	return out
}

func (w *words) end() int { return len(w.moments) }

// inner: the call of a record.
func (w *words) inner(record int) mach.Frame {
	l := w.moments[record].frames
	return l[len(l)-1]
}

func (w *words) calls(record int) int {
	if record == w.end() {
		return 0
	}
	return len(w.moments[record].frames)
}

// value: a spot's at a record; nil, if there is none.
func (w *words) value(s mach.Spot, record int) *int {
	for _, f := range w.moments[record].frames {
		if f.Call != s.Call {
			continue
		}
		v := f.Names[s.Slot]
		if s.Place < 0 {
			return &v.N
		}
		if s.Place < len(v.List) {
			return &v.List[s.Place]
		}
	}
	return nil
}

// seen: the last name of a function by its slot that has this name and is seen at a statement.
func seen(p api.Tree, info check.Info, stmt int, name string) int {
	in := listsOf(p)
	out := -1
	for slot, x := range p.Funcs[info.Func[stmt]].Params {
		if x == name {
			out = slot
		}
	}
	for at, s := range p.Stmts {
		if s.Kind != api.SVar && s.Kind != api.SArray || s.Name != name || info.Func[at] != info.Func[stmt] || s.Span.To > p.Stmts[stmt].Span.From {
			continue
		}
		for other, x := range p.Stmts {
			// What a statement stands in is all that whose span goes around its own.
			around := x.Span.From <= p.Stmts[stmt].Span.From && x.Span.To >= p.Stmts[stmt].Span.To
			if around && in[other] == in[at] {
				out = max(out, info.Put[at])
			}
		}
	}
	return out
}

// listsOf: of each statement the number of the list in which it stands.
func listsOf(p api.Tree) map[int]int {
	out := map[int]int{}
	var lists [][]int
	for _, f := range p.Funcs {
		lists = append(lists, f.Body)
	}
	for _, s := range p.Stmts {
		lists = append(lists, s.Then, s.Else)
	}
	for n, l := range lists {
		for _, at := range l {
			out[at] = n
		}
	}
	return out
}

func (w *words) hits(record int) bool {
	from := w.Tree.Stmts[w.inner(record).Stmt].Span.From
	if w.breaks[1+strings.Count(w.Text[:from], "\n")] {
		return true
	}
	for s := range w.watches {
		if record == 0 {
			continue
		}
		a, b := w.value(s, record-1), w.value(s, record)
		if (a == nil) != (b == nil) || a != nil && *a != *b {
			return true
		}
	}
	return false
}

// do: what is said to a line.
func (w *words) do(line string) desk.Reply {
	if w.closed {
		return desk.Reply{Code: api.ErrClosed}
	}
	o, e := order.Parse(line)
	if e != api.OK {
		return desk.Reply{Code: e, At: w.at}
	}
	out := w.reply(order.Words()[o.Kind-1], o)
	if out.Code != api.OK {
		out = desk.Reply{Code: out.Code}
	}
	out.At = w.at
	return out
}

func (w *words) reply(word string, o order.Order) desk.Reply {
	switch word {
	case "break", "clear":
		return w.breakOrClear(word, o.Num)
	case "list":
		return desk.Reply{List: w.allBreaks()}
	case "watch", "drop", "print", "why":
		return w.ofPlace(word, o)
	case "reached", "slice":
		if w.at == w.end() {
			return desk.Reply{Code: api.ErrNone}
		}
		if word == "slice" {
			l, e := slice.Of(w.Source, w.at)
			return desk.Reply{Code: e, List: l}
		}
		by, e := w.Graph.By(w.at)
		return desk.Reply{Code: e, List: []int{by}}
	case "where":
		var l []int
		if w.at < w.end() {
			for _, f := range w.moments[w.at].frames {
				l = append(l, f.Stmt)
			}
		}
		return desk.Reply{List: l}
	case "quit":
		w.closed = true
		return desk.Reply{}
	}
	return w.moved(word, o.Num)
}

func (w *words) allBreaks() []int {
	var out []int
	for n := range w.breaks {
		out = append(out, n)
	}
	slices.Sort(out)
	return out
}

// put puts a thing into a set, or takes it out.
func put[T comparable](set map[T]bool, x T, more bool) api.Errno {
	switch {
	case more && set[x]:
		return api.ErrTwice
	case more && len(set) == 20:
		return api.ErrMany
	case !more && !set[x]:
		return api.ErrNone
	}
	if more {
		set[x] = true
	} else {
		delete(set, x)
	}
	return api.OK
}

func (w *words) breakOrClear(word string, n int) desk.Reply {
	e := put(w.breaks, n, word == "break")
	return desk.Reply{Code: e, List: w.allBreaks()}
}

func (w *words) ofPlace(word string, o order.Order) desk.Reply {
	if w.at == w.end() {
		return desk.Reply{Code: api.ErrNone}
	}
	f := w.inner(w.at)
	slot := seen(w.Tree, w.Info, f.Stmt, o.Name)
	if slot < 0 {
		return desk.Reply{Code: api.ErrName}
	}
	if array := w.Info.Slots[f.Func][slot] == api.List; array == (o.Num == -1) {
		return desk.Reply{Code: api.ErrType}
	}
	s := mach.Spot{Call: f.Call, Slot: slot, Place: o.Num}
	v := w.value(s, w.at)
	if v == nil {
		return desk.Reply{Code: api.ErrIndex}
	}
	switch word {
	case "print":
		return desk.Reply{Value: *v}
	case "why":
		writer := -1
		for _, x := range w.touches[:w.moments[w.at].touched] {
			if x.Write && x.Spot == s {
				writer = x.Record
			}
		}
		return desk.Reply{List: []int{writer}}
	}
	e := put(w.watches, s, word == "watch")
	return desk.Reply{Code: e, List: []int{len(w.watches)}}
}

func (w *words) moved(word string, num int) desk.Reply {
	c, n := w.at, w.end()
	is := map[string]func(record int) bool{
		"next":   func(r int) bool { return w.calls(r) <= w.calls(c) },
		"prev":   func(r int) bool { return w.calls(r) <= w.calls(c) },
		"finish": func(r int) bool { return w.calls(r) < w.calls(c) },
		"start":  func(r int) bool { return w.calls(r) < w.calls(c) },
		"run":    w.hits,
		"rerun":  w.hits,
	}[word]
	switch word {
	case "step":
		return w.gone(c+1, c < n)
	case "back":
		return w.gone(c-1, c > 0)
	case "go":
		return w.gone(num, num <= n)
	case "next", "finish", "run":
		for r := c + 1; r < n; r++ {
			if is(r) {
				return w.gone(r, true)
			}
		}
		return w.gone(n, false)
	}
	for r := c - 1; r >= 0; r-- {
		if is(r) {
			return w.gone(r, true)
		}
	}
	return w.gone(0, false)
}

func (w *words) gone(to int, there bool) desk.Reply {
	w.at = min(max(to, 0), w.end())
	return desk.Reply{Clamped: !there}
}
