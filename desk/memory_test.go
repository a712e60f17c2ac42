package desk_test

import (
	"cmp"
	"runtime"
	"slices"
	"strings"
	"testing"
	"unsafe"

	"rewind/api"
	"rewind/check"
	"rewind/desk"
	"rewind/world"
)

// memory: where a list stands, spare room included.
type memory struct{ from, to uintptr }

func memoryOf(l []int) memory {
	from := uintptr(unsafe.Pointer(unsafe.SliceData(l)))
	return memory{from, from + uintptr(cap(l))*unsafe.Sizeof(0)}
}

// listsOfDesk: the lists of ints that a desk's source has.
func listsOfDesk(d *desk.Desk) [][]int {
	out := [][]int{d.Info.Type, d.Info.Slot, d.Info.Put, d.Info.Func, d.Flow.First}
	out = append(append(out, d.Info.Slots...), d.Flow.Next...)
	for _, x := range d.Tree.Stmts {
		out = append(out, x.Then, x.Else)
	}
	for _, x := range d.Tree.Funcs {
		out = append(out, x.Body)
	}
	return out
}

// asked: lines that are answered with lists, and change no list that stays.
var asked = []string{"break 5", "break 3", "break 9", "clear 9", "list", "watch i", "drop i", "watch a[1]", "why i", "why a[0]", "reached", "slice", "where", "list", "clear 3", "drop a[1]", "clear 5"}

func TestAnswersAreNewMemory(t *testing.T) {
	d := ofTurns(t)
	goTo(t, d, 18)
	var l []memory
	for _, x := range listsOfDesk(d) {
		l = append(l, memoryOf(x))
	}
	var all [][]int
	for range 50 {
		for _, line := range asked {
			r := d.Do(line)
			if r.Code != api.OK {
				t.Fatalf("P19.1: %s: %s", line, told(r))
			}
			all = append(all, r.List)
			l = append(l, memoryOf(r.List))
		}
	}
	l = slices.DeleteFunc(l, func(x memory) bool { return x.from == x.to })
	slices.SortFunc(l, func(a, b memory) int { return cmp.Compare(a.from, b.from) })
	for i := 1; i < len(l); i++ {
		if l[i].from < l[i-1].to {
			t.Fatalf("P7: two of %d lists share memory: %v, %v", len(l), l[i-1], l[i])
		}
	}
	if len(l) < 700 {
		t.Errorf("only %d lists", len(l))
	}
	runtime.KeepAlive(all)
}

// scribble changes a list, spare room too.
func scribble(l []int) {
	for i := range l[:cap(l)] {
		l[:cap(l)][i] = -77
	}
}

func TestWhatIsDoneToAnswersChangesNothing(t *testing.T) {
	d, other := ofTurns(t), ofTurns(t)
	for _, at := range []string{"go 18", "go 9", "go 15"} {
		d.Do(at)
		other.Do(at)
		for _, line := range append(slices.Clone(asked), "break 7", "watch i", "rerun", "list", "run", "where", "clear 7", "drop i") {
			r := d.Do(line)
			if got, want := told(r), told(other.Do(line)); got != want {
				t.Fatalf("P7: behind changed answers %s is %s, want %s", line, got, want)
			}
			scribble(r.List)
		}
	}
}

func TestInputsAreNotKept(t *testing.T) {
	inputs := []int{4, 7, -9, -9}
	d := opened(t, turns, world.World{Steps: 100, Inputs: inputs[:2]}, 3, 2)
	if !slices.Equal(inputs, []int{4, 7, -9, -9}) {
		t.Errorf("P7: the inputs were changed to %d", inputs)
	}
	scribble(inputs)
	wantTold(t, d, "go 9: 9", "print a[0]: 9 value 4", "print a[1]: 9 value 7", "go 0: 0", "step: 1", "print a[0]: 1", "go 4: 4", "print a[0]: 4 value 4")
	if !slices.Equal(inputs, []int{-77, -77, -77, -77}) {
		t.Errorf("P7: the inputs were changed to %d", inputs)
	}
}

// A line or a text that stands in memory that is written again is not kept.
func TestTextsAreNotKept(t *testing.T) {
	text, line := []byte(turns), []byte("watch a[1]")
	d := opened(t, unsafe.String(&text[0], len(text)), given, 3, 2)
	d.Do("go 5")
	d.Do(unsafe.String(&line[0], len(line)))
	for i := range text {
		text[i] = '@'
	}
	for i := range line {
		line[i] = '@'
	}
	wantTold(t, d, "watch a[1]: 5 error 7", "print i: 5 value 1", "break 13: 5 [13]", "run: 7", "run: 12", "print n: 12 value 4", "go 11: 11", "slice: 11 [0 1 2 3 4 6 8 13 14]", "watch less: 11 error 6")
	if d.Text != turns {
		t.Errorf("P7: the text that was handed in is kept")
	}
}

// Desks of the same text don't change one another.
func TestDesksAreByThemselves(t *testing.T) {
	a, b := ofTurns(t), ofTurns(t)
	wantTold(t, a, "break 5: 0 [5]", "go 9: 9", "watch i: 9 [1]")
	wantTold(t, b, "list: 0", "run: 19 clamped", "go 9: 9", "drop i: 9 error 17", "quit: 9")
	wantTold(t, a, "list: 9 [5]", "rerun: 8", "rerun: 7")
}

func TestSeenLeavesWhatIsHandedIn(t *testing.T) {
	p, info := checked(t, nested)
	q, other := checked(t, nested)
	for i := range p.Stmts {
		p.Stmts[i].Then = append(slices.Clone(p.Stmts[i].Then), 99)[:len(p.Stmts[i].Then)]
	}
	for at := range p.Stmts {
		for _, name := range strings.Fields("a b c d x y zz") {
			if got, want := desk.Seen(p, info, at, name), desk.Seen(q, other, at, name); got != want {
				t.Errorf("P7: Seen hangs on spare room: %d, want %d", got, want)
			}
		}
	}
	for i, x := range p.Stmts {
		if l := x.Then[:cap(x.Then)]; !slices.Equal(x.Then, q.Stmts[i].Then) || l[len(x.Then)] != 99 {
			t.Errorf("P7: what was handed in was changed: %d", l)
		}
	}
}

// Nothing is promised of these, but that no call panics, and each ends.
func TestWhatNothingIsPromisedOf(t *testing.T) {
	d := &desk.Desk{}
	for _, line := range append(slices.Clone(asked), "run", "rerun", "step", "back", "next", "prev", "finish", "start", "go 7", "print x", "watch x[1]", "quit", "quit") {
		d.Do(line)
	}
	if d.Len() != 0 {
		t.Errorf("Len: %d", d.Len())
	}
	p, info := checked(t, nested)
	around := api.Tree{Stmts: []api.Stmt{{Kind: api.SIf, Then: []int{1}}, {Kind: api.SWhile, Then: []int{0, 1, -5, 88}}, {Kind: api.SVar, Name: "x"}}}
	for _, stmt := range []int{-1, -2, 0, 1, 2, 3, 30, 31, 99, 1 << 62, -1 << 63} {
		for _, tree := range []api.Tree{p, {}, around, {Stmts: p.Stmts}, {Funcs: p.Funcs}} {
			for _, known := range []check.Info{info, {}, {Func: []int{-1, 5, 99, 2}}, {Put: []int{-9}}} {
				desk.Seen(tree, known, stmt, "x")
				desk.Seen(tree, known, stmt, "")
			}
		}
	}
}
