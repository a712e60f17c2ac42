package code_test

import (
	"cmp"
	"math"
	"reflect"
	"runtime"
	"slices"
	"strings"
	"testing"
	"unsafe"

	"rewind/code"
)

// memory: where a list, or a text, stands, spare room included.
type memory struct{ from, to uintptr }

func memoryOf[T any](l []T) memory {
	from := uintptr(unsafe.Pointer(unsafe.SliceData(l)))
	return memory{from, from + uintptr(cap(l))*unsafe.Sizeof(*new(T))}
}

func memoryOfText(s string) memory {
	from := uintptr(unsafe.Pointer(unsafe.StringData(s)))
	return memory{from, from + uintptr(len(s))}
}

func TestNoTwoListsShareMemory(t *testing.T) {
	text := strings.Clone(all)
	c, again := parsed(t, text), parsed(t, text)
	first, _ := code.Heights(c)
	second, _ := code.Heights(c)
	l := []memory{memoryOfText(text), memoryOf(first), memoryOf(second)}
	for _, x := range []code.Code{c, again} {
		l = append(l, memoryOf(x.Procs), memoryOf(x.List))
		for _, p := range x.Procs {
			l = append(l, memoryOfText(p.Name))
		}
	}
	slices.SortFunc(l, func(a, b memory) int { return cmp.Compare(a.from, b.from) })
	for i := 1; i < len(l); i++ {
		if l[i].from < l[i-1].to {
			t.Errorf("P7: two lists share memory: %v, %v", l[i-1], l[i])
		}
	}
	for _, x := range []any{text, c, again, first, second} {
		runtime.KeepAlive(x)
	}
}

func scribble[T any](x T, l []T) {
	for i := range l[:cap(l)] {
		l[:cap(l)][i] = x
	}
}

func TestAnswersAreApart(t *testing.T) {
	c := parsed(t, all)
	heights, _ := code.Heights(c)
	want := slices.Clone(heights)
	scribble(-7, heights)
	other := parsed(t, all)
	scribble(code.Proc{Name: "x"}, other.Procs)
	scribble(code.Instr{Op: 99}, other.List)
	if !reflect.DeepEqual(c, parsed(t, all)) || code.Print(c) != all {
		t.Error("P7: code was changed by what was done to an answer")
	}
	if again, good := code.Heights(c); !good || !slices.Equal(again, want) {
		t.Error("P7: an answer was changed by what was done to an earlier one")
	}
}

// With spare room, of which nothing is read and nothing changed.
func TestWhatIsHandedInStays(t *testing.T) {
	c := parsed(t, all)
	heights, _ := code.Heights(c)
	odd, oddProc := code.Instr{Op: 99, Arg: math.MinInt, More: -1}, code.Proc{Name: "if", From: -5, To: math.MaxInt, Params: -3, Slots: 99}
	list := append(slices.Clone(c.List), odd, odd, odd)
	procs := append(slices.Clone(c.Procs), oddProc, oddProc)
	wasList, wasProcs := slices.Clone(list), slices.Clone(procs)
	handed := code.Code{Procs: procs[:len(c.Procs)], List: list[:len(c.List)]}
	got, good := code.Heights(handed)
	if !good || !slices.Equal(got, heights) || !code.Good(handed) || code.Print(handed) != all {
		t.Error("P7: an answer hangs on spare room")
	}
	if !slices.Equal(list, wasList) || !slices.Equal(procs, wasProcs) {
		t.Error("P7: what was handed in, or its spare room, was changed")
	}
	bad := code.Code{Procs: procs, List: list}
	wantNone(t, bad)
	if !slices.Equal(list, wasList) || !slices.Equal(procs, wasProcs) {
		t.Error("P7: code that isn't good was changed")
	}
}
