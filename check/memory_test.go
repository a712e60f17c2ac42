package check_test

import (
	"cmp"
	"reflect"
	"runtime"
	"slices"
	"testing"
	"unsafe"

	"rewind/api"
	"rewind/check"
)

const manyNames = "func main() { var x = 1; var a[3]; if x == 1 { var x = f(x, a[0]); print x; } else { g(); } while true { a[x] = -x; break; } } func f(x, y) int { var z = x < y; return y; } func g() { } func h(n) { n = n; }"

// memory: where a list stands, spare room included.
type memory struct{ from, to uintptr }

func memoryOf[T any](l []T) memory {
	from := uintptr(unsafe.Pointer(unsafe.SliceData(l)))
	return memory{from, from + uintptr(cap(l))*unsafe.Sizeof(*new(T))}
}

func memoryOfInfo(x check.Info) []memory {
	out := []memory{memoryOf(x.Type), memoryOf(x.Slot), memoryOf(x.Put), memoryOf(x.Func), memoryOf(x.Slots)}
	for _, l := range x.Slots {
		out = append(out, memoryOf(l))
	}
	return out
}

func memoryOfTree(p api.Tree) []memory {
	out := []memory{memoryOf(p.Exprs), memoryOf(p.Stmts), memoryOf(p.Funcs)}
	for _, x := range p.Exprs {
		out = append(out, memoryOf(x.List))
	}
	for _, s := range p.Stmts {
		out = append(out, memoryOf(s.Then), memoryOf(s.Else))
	}
	for _, f := range p.Funcs {
		out = append(out, memoryOf(f.Params), memoryOf(f.Body))
	}
	return out
}

func TestNoTwoListsShareMemory(t *testing.T) {
	p := parsed(t, manyNames)
	x, _, _ := check.Check(p)
	y, _, _ := check.Check(p)
	l := slices.Concat(memoryOfInfo(x), memoryOfInfo(y), memoryOfTree(p))
	l = slices.DeleteFunc(l, func(m memory) bool { return m.from == m.to })
	slices.SortFunc(l, func(a, b memory) int { return cmp.Compare(a.from, b.from) })
	for i := 1; i < len(l); i++ {
		if l[i].from < l[i-1].to {
			t.Errorf("P7: two lists share memory: %v, %v", l[i-1], l[i])
		}
	}
	runtime.KeepAlive(x)
	runtime.KeepAlive(y)
	runtime.KeepAlive(p)
}

func scribble(x check.Info) {
	for _, l := range append(x.Slots, x.Type, x.Slot, x.Put, x.Func) {
		for i := range l[:cap(l)] {
			l[:cap(l)][i] = -7
		}
	}
}

func TestAnswersAreApart(t *testing.T) {
	p := parsed(t, manyNames)
	first, _, _ := check.Check(p)
	second, _, _ := check.Check(p)
	was := full(first)
	scribble(first)
	if !reflect.DeepEqual(full(second), was) {
		t.Error("P7: what one answer has was changed by what was done to another")
	}
	wantFault(t, "func main() { print @x; }", api.ErrName)
	wantInfo(t, manyNames, was)
}

func TestTheProgramStays(t *testing.T) {
	for _, text := range []string{manyNames, "func main() { } func f(z, y, x, z) { }", "func main() { } func f(z, y, x) { f(x, y, true); }", "func main() { print x; }"} {
		p := parsed(t, text)
		check.Check(p)
		if !reflect.DeepEqual(p, parsed(t, text)) {
			t.Errorf("P7: the program of %q was changed", text)
		}
	}
}
