package mach_test

import (
	"cmp"
	"reflect"
	"runtime"
	"slices"
	"testing"
	"unsafe"

	"rewind/code"
	"rewind/mach"
	"rewind/world"
)

// memory: where a list stands, spare room included.
type memory struct{ from, to uintptr }

func memoryOf[T any](l []T) memory {
	var one T
	from := uintptr(unsafe.Pointer(unsafe.SliceData(l)))
	return memory{from, from + uintptr(cap(l))*unsafe.Sizeof(one)}
}

// scribble changes a list, spare room too.
func scribble[T any](x T, l []T) {
	for i := range l[:cap(l)] {
		l[:cap(l)][i] = x
	}
}

func scribbleAll(frames []mach.Frame, touches []mach.Touch) {
	for _, f := range frames {
		for _, v := range f.Names {
			scribble(-77, v.List)
		}
		scribble(mach.Value{N: -77}, f.Names)
	}
	scribble(mach.Frame{Call: -77}, frames)
	scribble(mach.Touch{Record: -77}, touches)
}

const manyLists = "func main() { var a[3]; var b[4]; f(1, 2); }\nfunc f(x, y) { var a[5]; a[2] = x; f(x + 1, y * 2); }"

func TestNoTwoListsShareMemory(t *testing.T) {
	handed := append([]int{}, 4, -5, 6)
	m, _ := mach.New(built(t, manyLists), world.World{Steps: 40, Inputs: handed})
	l := []memory{memoryOf(handed)}
	var all []any
	for m.Next() {
		for _, x := range []*mach.Machine{m, m, m.Copy()} {
			frames, touches := x.Frames(), x.Touches()
			l = append(l, memoryOf(frames), memoryOf(touches))
			for _, f := range frames {
				l = append(l, memoryOf(f.Names))
				for _, v := range f.Names {
					l = append(l, memoryOf(v.List))
				}
			}
			all = append(all, x, frames, touches)
		}
	}
	l = slices.DeleteFunc(l, func(x memory) bool { return x.from == x.to })
	slices.SortFunc(l, func(a, b memory) int { return cmp.Compare(a.from, b.from) })
	for i := 1; i < len(l); i++ {
		if l[i].from < l[i-1].to {
			t.Fatalf("P13.2: two of %d lists share memory: %v, %v", len(l), l[i-1], l[i])
		}
	}
	if len(l) < 1000 {
		t.Errorf("only %d lists", len(l))
	}
	runtime.KeepAlive(all)
	runtime.KeepAlive(handed)
}

// What is done to an answer changes neither the machine, nor its copies.
func TestAnswersAreNewMemory(t *testing.T) {
	for _, text := range append([]string{manyLists}, stock...) {
		c := built(t, text)
		want := moments(started(t, c, 100, 3, 5, 1, 4, 2))
		m := started(t, c, 100, 3, 5, 1, 4, 2)
		for n, x := range want {
			next := m.Next()
			other := m.Copy()
			scribbleAll(m.Frames(), m.Touches())
			if got := momentOf(m, next); got != x {
				t.Fatalf("P13.2: %s\nwhat was done to an answer changed the machine:\n%s\nwant\n%s", text, got, x)
			}
			scribbleAll(other.Frames(), other.Touches())
			if got := momentOf(other, next); got != x {
				t.Fatalf("P13.2: %s\nwhat was done to an answer changed a copy:\n%s\nwant\n%s", text, got, x)
			}
			if next && n%10 == 0 {
				wantMoments(t, text, other, want[n+1:])
			}
		}
	}
}

// withSpareRoom: a list with things behind it.
func withSpareRoom[T any](l []T, spare T) []T {
	return append(slices.Clone(l), spare, spare)[:len(l)]
}

func allOf[T any](l []T) []T { return slices.Clone(l[:cap(l)]) }

func TestWhatIsHandedInStays(t *testing.T) {
	for _, text := range stock {
		c := built(t, text)
		c.Procs, c.List = withSpareRoom(c.Procs, code.Proc{Name: "spare"}), withSpareRoom(c.List, code.Instr{Op: 99})
		inputs := withSpareRoom([]int{3, 5, 1, 4, 2}, -7)
		procs, list, row := allOf(c.Procs), allOf(c.List), allOf(inputs)
		m := started(t, c, 100, inputs...)
		for m.Next() {
			m.Copy().Next()
			m.Frames()
			m.Touches()
		}
		if !slices.Equal(procs, allOf(c.Procs)) || !slices.Equal(list, allOf(c.List)) {
			t.Errorf("P7: the code, or its spare room, was changed, of\n%s", text)
		}
		if !slices.Equal(row, allOf(inputs)) {
			t.Errorf("P7: the inputs, or their spare room, were changed, of\n%s", text)
		}
	}
}

// A machine, and its copies, read the inputs that were handed in, whatever is done to them behind New.
func TestInputsAreNotKept(t *testing.T) {
	c := built(t, "func main() { print read; print read; print read; print read; }")
	w := world.World{Steps: 9, Inputs: []int{4, -5, 6}}
	m, _ := mach.New(c, w)
	m.Next()
	other := m.Copy()
	scribble(1, w.Inputs)
	w.Steps = 0
	for _, x := range []*mach.Machine{m, other} {
		for x.Next() {
		}
		if got := ending(x); got != "true 12, 4 steps, 3 taken: 4 -5 6" {
			t.Errorf("P7: what was handed in was kept: %s", got)
		}
	}
}

func TestTheSameEachTime(t *testing.T) {
	for _, text := range append(slices.Clone(ordinary), stock...) {
		c := built(t, text)
		want := moments(started(t, c, 150, 3, 5, 1, 4, 2))
		for range 3 {
			if got := moments(started(t, c, 150, 3, 5, 1, 4, 2)); !reflect.DeepEqual(got, want) {
				t.Errorf("P13.2: %s\nruns as\n%s\nand then as\n%s", text, want, got)
			}
		}
	}
}
