package slice_test

import (
	"slices"
	"testing"

	"rewind/api"
	"rewind/code"
	"rewind/fence"
	"rewind/lean"
	"rewind/mach"
	"rewind/make"
	"rewind/slice"
	"rewind/trace"
	"rewind/world"
)

// The words once more, as they stand.

// exit: behind a function's last statement.
const exit = -1

// words: a source, and what the words ask it for.
type words struct {
	slice.Source
	writers [][]int // of each record those of what it reads, told by a machine that goes straight on
	by      []int   // of each record the one that let it run
	falls   []int
}

func wordsOf(t *testing.T, s slice.Source, w world.World) words {
	t.Helper()
	c, e := make.Make(s.Tree, s.Info)
	if e != api.OK {
		t.Fatal(e)
	}
	out := words{Source: s, writers: writers(t, c, w), falls: lean.Falls(s.Tree)}
	if len(out.writers) != len(s.Trace.Rows) {
		t.Fatalf("%d records, and %d rows", len(out.writers), len(s.Trace.Rows))
	}
	out.by = reasons(s)
	return out
}

func writers(t *testing.T, c code.Code, w world.World) [][]int {
	t.Helper()
	m, e := mach.New(c, w)
	if e != api.OK {
		t.Fatal(e)
	}
	var out [][]int
	last := map[mach.Spot]int{}
	for more := true; more; {
		more = m.Next()
		for _, x := range m.Touches() {
			if writer, wrote := last[x.Spot]; x.Write {
				last[x.Spot] = x.Record
			} else if wrote {
				out[x.Record] = append(out[x.Record], writer)
			}
		}
		if more {
			out = append(out, nil)
		}
	}
	return out
}

// reasons: of each record the one that let it run.
func reasons(s slice.Source) []int {
	leans := lean.Of(s.Flow)
	calls := map[int][]int{} // of each call its records
	var out []int
	for record, row := range s.Trace.Rows {
		own := append(calls[row.Call], record)
		calls[row.Call] = own
		by, found := caller(s, record), false
		for n := len(own) - 2; n >= 0 && !found; n-- {
			if choice, next := s.Trace.Rows[own[n]].Stmt, s.Trace.Rows[own[n+1]].Stmt; leansOnWay(s, leans[row.Stmt], choice, next) {
				by, found = own[n], true
			}
		}
		out = append(out, by)
	}
	return out
}

// caller: the record that called the call of another one: the last one ahead of that call's first one that is in one call fewer.
func caller(s slice.Source, record int) int {
	row := s.Trace.Rows[record]
	first := slices.IndexFunc(s.Trace.Rows, func(x trace.Row) bool { return x.Call == row.Call })
	for n := first - 1; n >= 0; n-- {
		if s.Trace.Rows[n].Depth == row.Depth-1 {
			return n
		}
	}
	return -1
}

// leansOnWay: is a way of an if or a while that leads to a statement among some leans?
func leansOnWay(s slice.Source, leans []lean.Lean, choice, next int) bool {
	for way, to := range s.Flow.Next[choice] {
		if len(s.Flow.Next[choice]) == 2 && to == next && slices.Contains(leans, lean.Lean{At: choice, Way: way}) {
			return true
		}
	}
	return false
}

func isJump(x api.Stmt) bool {
	return x.Kind == api.SBreak || x.Kind == api.SContinue || x.Kind == api.SReturn
}

// slice: a record's.
func (x words) slice(record int) []int {
	set := []int{x.Trace.Rows[record].Stmt}
	for more := true; more; {
		for size := 0; size < len(set); {
			size = len(set)
			for _, at := range slices.Concat(x.second(set, record), x.third(set), x.fourth(set)) {
				if !slices.Contains(set, at) {
					set = append(set, at)
				}
			}
		}
		more = false
		for at, s := range x.Tree.Stmts {
			if isJump(s) && x.Trace.Count(at, record+1) > 0 && !slices.Contains(set, at) && x.fifth(set, at) {
				set, more = append(set, at), true
			}
		}
	}
	slices.Sort(set)
	return set
}

func (x words) second(set []int, record int) []int {
	var out []int
	for n := 0; n <= record; n++ {
		if !slices.Contains(set, x.Trace.Rows[n].Stmt) {
			continue
		}
		for _, writer := range x.writers[n] {
			out = append(out, x.Trace.Rows[writer].Stmt)
		}
		if x.by[n] >= 0 {
			out = append(out, x.Trace.Rows[x.by[n]].Stmt)
		}
	}
	slices.Sort(out)
	return slices.Compact(out)
}

func (x words) third(set []int) []int {
	var out []int
	for _, at := range set {
		for outer, s := range x.Tree.Stmts {
			if slices.Contains(s.Then, at) || slices.Contains(s.Else, at) {
				out = append(out, outer)
			}
			isNaming := s.Kind == api.SVar || s.Kind == api.SArray
			if isNaming && x.Info.Func[outer] == x.Info.Func[at] && x.namesOf(at, x.Info.Put[outer]) {
				out = append(out, outer)
			}
		}
	}
	return out
}

// namesOf: does a statement name a slot, itself or in its expressions? An expression is one of those of the innermost statement in whose span it stands.
func (x words) namesOf(stmt, slot int) bool {
	if x.Info.Put[stmt] == slot {
		return true
	}
	for at, e := range x.Tree.Exprs {
		if (e.Kind == api.EName || e.Kind == api.EIndex) && x.Info.Slot[at] == slot && x.innermost(e.Span) == stmt {
			return true
		}
	}
	return false
}

// innermost: the statement with the shortest span in which another one is.
func (x words) innermost(s api.Span) int {
	out := -1
	for at, stmt := range x.Tree.Stmts {
		if stmt.Span.From <= s.From && s.To <= stmt.Span.To && (out < 0 || stmt.Span.To-stmt.Span.From < x.Tree.Stmts[out].Span.To-x.Tree.Stmts[out].Span.From) {
			out = at
		}
	}
	return out
}

func (x words) fourth(set []int) []int {
	var out []int
	for _, at := range set {
		if l := x.Tree.Stmts[at].Else; len(l) == 1 && x.Tree.Stmts[l[0]].Kind == api.SIf {
			out = append(out, l[0])
		}
	}
	return out
}

func (x words) fifth(set []int, jump int) bool {
	var falls []int
	for at := x.falls[jump]; at != exit; at = x.falls[at] {
		falls = append(falls, at)
	}
	return firstOf(set, fence.All(x.Flow, jump)[1:]) != firstOf(set, falls)
}

// firstOf: the first one of a list that is in a set, or the exit.
func firstOf(set, l []int) int {
	for _, at := range l {
		if slices.Contains(set, at) {
			return at
		}
	}
	return exit
}
