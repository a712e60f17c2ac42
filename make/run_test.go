package make_test

import (
	"slices"
	"strconv"
	"strings"

	"rewind/api"
)

// event: what a program does: it begins a statement (of a call, in a function), or it reads, or writes, a spot (of a call).
type event struct {
	what    string
	call    int
	of, one int // a function and a statement; a slot and a place
}

// run: what happened, as far as a program has run in a world.
type run struct {
	steps  int
	inputs []int
	events []event
	out    strings.Builder
	end    api.Errno
}

// stop ends a run: ended catches it.
type stop api.Errno

func (r *run) stop(e api.Errno) { panic(stop(e)) }

// ended runs a program, up to its end, or an error of its.
func (r *run) ended(program func()) {
	defer func() {
		if x := recover(); x != nil {
			r.end = api.Errno(x.(stop))
		}
	}()
	program()
}

func (r *run) begin(call, function, stmt int) {
	if r.steps == 0 {
		r.stop(api.ErrSpent)
	}
	r.steps--
	r.events = append(r.events, event{"begin", call, function, stmt})
}

func (r *run) touch(what string, call, slot, place int) {
	r.events = append(r.events, event{what, call, slot, place})
}

func (r *run) read() int {
	if len(r.inputs) == 0 {
		r.stop(api.ErrInput)
	}
	n := r.inputs[0]
	r.inputs = r.inputs[1:]
	return n
}

func (r *run) print(kind, n int) {
	if kind == api.Bool {
		r.out.WriteString(strconv.FormatBool(n == 1) + "\n")
	} else {
		r.out.WriteString(strconv.Itoa(n) + "\n")
	}
}

// place: an index of an array of so many, which must be there.
func (r *run) place(index int, array []int) int {
	if index < 0 || index >= len(array) {
		r.stop(api.ErrIndex)
	}
	return index
}

func (r *run) divided(op string, a, b int) int {
	if b == 0 {
		r.stop(api.ErrZero)
	}
	if op == "/" {
		return a / b
	}
	return a % b
}

// same: have both done the same?
func (r *run) same(other *run) bool {
	return slices.Equal(r.events, other.events) && r.out.String() == other.out.String() && r.end == other.end && slices.Equal(r.inputs, other.inputs)
}

func btoi(b bool) int {
	if b {
		return 1
	}
	return 0
}
