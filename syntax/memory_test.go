package syntax_test

import (
	"cmp"
	"reflect"
	"runtime"
	"slices"
	"strings"
	"testing"
	"unsafe"

	"rewind/api"
)

const manyLists = "func f(a, b, c) int { f(1, x, y); if x { y = 1; z = 2; w = 3; } else { print f(z); print 2; print 3; } while x { break; continue; } return a; } func g(a) { if x { } else if y { break; } f(f(1, 2, 3), 4, 5); }"

// memory: where a list stands, spare room included.
type memory struct{ from, to uintptr }

func memoryOf[T any](l []T) memory {
	from := uintptr(unsafe.Pointer(unsafe.SliceData(l)))
	return memory{from, from + uintptr(cap(l))*unsafe.Sizeof(*new(T))}
}

func allMemory(p api.Tree) []memory {
	out := []memory{memoryOf(p.Exprs), memoryOf(p.Stmts), memoryOf(p.Funcs)}
	for _, x := range p.Exprs {
		out = append(out, memoryOf(x.List))
	}
	for _, s := range p.Stmts {
		out = append(out, memoryOf(s.Then), memoryOf(s.Else))
	}
	for _, f := range p.Funcs {
		out = append(out, memoryOf(f.Params), memoryOf(f.Body))
	}
	return slices.DeleteFunc(out, func(m memory) bool { return m.from == m.to })
}

func TestNoTwoListsShareMemory(t *testing.T) {
	p, q := wantRight(t, manyLists), wantRight(t, manyLists)
	l := append(allMemory(p), allMemory(q)...)
	if len(l) != 2*16 {
		t.Errorf("P4.1: %d lists of two answers aren't empty, want 32", len(l))
	}
	slices.SortFunc(l, func(a, b memory) int { return cmp.Compare(a.from, b.from) })
	for i := 1; i < len(l); i++ {
		if l[i].from < l[i-1].to {
			t.Errorf("P7: two lists share memory: %v, %v", l[i-1], l[i])
		}
	}
	runtime.KeepAlive(p)
	runtime.KeepAlive(q)
}

func scribble(p api.Tree) {
	for _, x := range p.Exprs {
		fill(x.List, -7)
	}
	for _, s := range p.Stmts {
		fill(s.Then, -7)
		fill(s.Else, -7)
	}
	for _, f := range p.Funcs {
		fill(f.Params, "scribble")
		fill(f.Body, -7)
	}
	fill(p.Exprs, api.Expr{Name: "scribble"})
	fill(p.Stmts, api.Stmt{Name: "scribble"})
	fill(p.Funcs, api.Func{Name: "scribble"})
}

func fill[T any](l []T, x T) {
	for i := range l[:cap(l)] {
		l[:cap(l)][i] = x
	}
}

func TestAnswersAreApart(t *testing.T) {
	first, second := wantRight(t, manyLists), wantRight(t, manyLists)
	was := plain(first)
	scribble(first)
	if !reflect.DeepEqual(plain(second), was) {
		t.Error("P7: what one answer has was changed by what was done to another")
	}
	wantTree(t, manyLists, was)
	wantFault(t, "func @1", api.ErrParse)
	wantTree(t, manyLists, was)
}

// within: does a string that has bytes stand within the memory of another one?
func within(part, whole string) bool {
	from := uintptr(unsafe.Pointer(unsafe.StringData(whole)))
	at := uintptr(unsafe.Pointer(unsafe.StringData(part)))
	return part != "" && from <= at && at < from+uintptr(len(whole))
}

func TestTheTextIsNotKept(t *testing.T) {
	text := strings.Clone(manyLists + " func h(long) { var name = -long * other[1]; var array[3]; name = 1; array[1] = call(2); }")
	p := wantRight(t, text)
	var l []string
	for _, x := range p.Exprs {
		l = append(l, x.Name, x.Op)
	}
	for _, s := range p.Stmts {
		l = append(l, s.Name)
	}
	for _, f := range p.Funcs {
		l = append(append(l, f.Name), f.Params...)
	}
	for _, s := range l {
		if within(s, text) {
			t.Errorf("P7: %q shares memory with the text", s)
		}
	}
	if text != manyLists+" func h(long) { var name = -long * other[1]; var array[3]; name = 1; array[1] = call(2); }" {
		t.Error("P7: the text was changed")
	}
}
