package mach_test

import (
	"fmt"
	"strconv"
	"testing"

	"rewind/api"
	"rewind/check"
	"rewind/code"
	"rewind/flow"
	"rewind/mach"
	"rewind/world"
)

// moment: what a machine tells behind a Next.
type moment struct {
	next    bool
	ended   bool
	end     api.Errno
	steps   int
	taken   int
	out     string
	frames  []mach.Frame
	touches []mach.Touch
}

func momentOf(m *mach.Machine, next bool) string {
	x := moment{next: next, steps: m.Steps(), taken: m.Taken(), out: m.Out(), frames: m.Frames(), touches: m.Touches()}
	x.ended, x.end = m.Ended()
	return fmt.Sprint(x)
}

// teller does what the chapter says of a program, along its tree and its flow, and tells the moment behind each Next.
type teller struct {
	api.Tree
	info    check.Info
	g       flow.Graph
	in      world.World
	frames  []mach.Frame
	count   int
	now     moment
	moments []string
}

// stop ends a program: ended catches it.
type stop api.Errno

func told(p api.Tree, info check.Info, in world.World) *teller {
	w := &teller{Tree: p, info: info, g: flow.Of(p), in: in}
	w.now.end = w.ended()
	w.now.ended, w.frames = true, nil
	w.tell(false)
	return w
}

func (w *teller) ended() (e api.Errno) {
	defer func() {
		if x := recover(); x != nil {
			e = api.Errno(x.(stop))
		}
	}()
	w.call(0, nil)
	return api.OK
}

func (w *teller) stopIf(b bool, e api.Errno) {
	if b {
		panic(stop(e))
	}
}

// tell tells the moment, and begins the next one.
func (w *teller) tell(next bool) {
	w.now.next, w.now.frames = next, w.frames
	w.moments = append(w.moments, fmt.Sprint(w.now))
	w.now.touches = nil
}

func (w *teller) inner() *mach.Frame { return &w.frames[len(w.frames)-1] }

func (w *teller) touch(write bool, call, slot, place int) {
	x := mach.Touch{Record: w.inner().Record, Spot: mach.Spot{Call: call, Slot: slot, Place: place}, Write: write}
	w.now.touches = append(w.now.touches, x)
}

// call: what a call of a function answers, and its number.
func (w *teller) call(function int, args []int) (int, int) {
	w.stopIf(len(w.frames) >= 64, api.ErrStack)
	number, answer := w.count, 0
	w.count++
	names := append([]mach.Value{}, make([]mach.Value, len(w.info.Slots[function]))...)
	for slot, n := range args {
		names[slot].N = n
		w.touch(true, number, slot, -1)
	}
	w.frames = append(w.frames, mach.Frame{Call: number, Func: function, Stmt: -1, Record: -1, Names: names})
	for at := w.g.First[function]; at != -1; {
		w.stopIf(w.now.steps >= w.in.Steps, api.ErrSpent)
		w.inner().Stmt, w.inner().Record = at, w.now.steps
		w.now.steps++
		w.tell(true)
		way := 0
		way, answer = w.statement(at)
		at = w.g.Next[at][way]
	}
	w.frames = w.frames[:len(w.frames)-1]
	return answer, number
}

// statement does a statement; it tells which way on is taken, and what a return answers.
func (w *teller) statement(at int) (way, answer int) {
	x, slot, call := w.Stmts[at], w.info.Put[at], w.inner().Call
	switch x.Kind {
	case api.SVar, api.SSet:
		w.inner().Names[slot].N = w.value(x.A)
		w.touch(true, call, slot, -1)
	case api.SArray:
		w.inner().Names[slot].List = make([]int, x.Num)
		for n := range x.Num {
			w.touch(true, call, slot, n)
		}
	case api.SPut:
		index, n := w.value(x.A), w.value(x.B)
		*w.element(slot, index) = n
		w.touch(true, call, slot, index)
	case api.SIf, api.SWhile:
		return 1 - w.value(x.A), 0
	case api.SReturn:
		if x.A >= 0 {
			answer = w.value(x.A)
			w.touch(true, call, -1, -1)
		}
	case api.SPrint:
		n := w.value(x.A)
		if w.info.Type[x.A] == api.Bool {
			w.now.out += []string{"false", "true"}[n] + "\n"
		} else {
			w.now.out += strconv.Itoa(n) + "\n"
		}
	case api.SCall:
		w.value(x.A)
	}
	return 0, answer
}

func (w *teller) element(slot, index int) *int {
	list := w.inner().Names[slot].List
	w.stopIf(index < 0 || index >= len(list), api.ErrIndex)
	return &list[index]
}

func (w *teller) value(at int) int {
	x, slot, call := w.Exprs[at], w.info.Slot[at], w.inner().Call
	switch x.Kind {
	case api.ENum:
		return x.Num
	case api.ETrue:
		return 1
	case api.EName:
		w.touch(false, call, slot, -1)
		return w.inner().Names[slot].N
	case api.EIndex:
		index := w.value(x.A)
		n := *w.element(slot, index)
		w.touch(false, call, slot, index)
		return n
	case api.ECall:
		return w.called(x, slot)
	case api.ERead:
		w.stopIf(w.now.taken == len(w.in.Inputs), api.ErrInput)
		w.now.taken++
		return w.in.Inputs[w.now.taken-1]
	case api.EUnary:
		if x.Op == "!" {
			return 1 - w.value(x.A)
		}
		return -w.value(x.A)
	case api.EPair:
		return w.pair(x)
	}
	return 0
}

func (w *teller) called(x api.Expr, function int) int {
	var args []int
	for _, a := range x.List {
		args = append(args, w.value(a))
	}
	answer, number := w.call(function, args)
	if w.Funcs[function].Type == api.Int {
		w.touch(false, number, -1, -1)
	}
	return answer
}

func (w *teller) pair(x api.Expr) int {
	a := w.value(x.A)
	if x.Op == "&&" && a == 0 || x.Op == "||" && a == 1 {
		return a
	}
	b := w.value(x.B)
	if x.Op == "/" || x.Op == "%" {
		w.stopIf(b == 0, api.ErrZero)
		return map[string]func() int{"/": func() int { return a / b }, "%": func() int { return a % b }}[x.Op]()
	}
	if x.Op == "&&" || x.Op == "||" {
		return b
	}
	if n, ok := map[string]int{"+": a + b, "-": a - b, "*": a * b}[x.Op]; ok {
		return n
	}
	if map[string]bool{"<": a < b, "<=": a <= b, ">": a > b, ">=": a >= b, "==": a == b, "!=": a != b}[x.Op] {
		return 1
	}
	return 0
}

// wantAsTold: a machine that is behind so many Nexts tells just what the chapter says, from there to its end, and behind it.
func wantAsTold(t *testing.T, text string, w *teller, m *mach.Machine, nexts int) {
	t.Helper()
	for n, want := range w.moments[nexts:] {
		if got := momentOf(m, m.Next()); got != want {
			t.Fatalf("P13.1: with %v, behind %d Nexts\n%s\ntells\n%.3000s\nwant\n%.3000s", w.in, nexts+n+1, text, got, want)
		}
	}
	w.now.next, w.now.frames, w.now.touches = false, nil, nil
	if got, want := momentOf(m, m.Next()), fmt.Sprint(w.now); got != want {
		t.Fatalf("P13.1: with %v, a Next behind the end of\n%s\ntells\n%.3000s\nwant\n%.3000s", w.in, text, got, want)
	}
}

// machineOf: of a program, or of its code's text.
func machineOf(t *testing.T, text string, in world.World, byText bool) *mach.Machine {
	t.Helper()
	c := built(t, text)
	if byText {
		read, _, e := code.Parse(code.Print(c))
		if e != api.OK {
			t.Fatalf("Parse of code of %s: %d", text, e)
		}
		c = read
	}
	return started(t, c, in.Steps, in.Inputs...)
}

func TestOrdinaryProgramsAsTold(t *testing.T) {
	for _, text := range ordinary {
		p, info := right(t, text)
		for steps := range 260 {
			in := world.World{Steps: steps, Inputs: []int{3, 5, 1, 4, 2}[:steps%6]}
			wantAsTold(t, text, told(p, info, in), machineOf(t, text, in, steps%2 == 0), 0)
		}
	}
}
