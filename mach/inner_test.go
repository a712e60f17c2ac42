package mach_test

import (
	"math"
	"reflect"
	"slices"
	"testing"

	"rewind/api"
	"rewind/code"
	"rewind/mach"
)

// innerOf: what Frames says of the innermost call, without its names.
func innerOf(m *mach.Machine) (mach.Frame, int) {
	l := m.Frames()
	if len(l) == 0 {
		return mach.Frame{}, 0
	}
	f := l[len(l)-1]
	f.Names = nil
	return f, len(l)
}

func wantInner(t *testing.T, text string, m *mach.Machine) {
	t.Helper()
	f, depth := m.Inner()
	g, want := innerOf(m)
	if !reflect.DeepEqual(f, g) || depth != want {
		t.Fatalf("behind %d statements the innermost call is %v, %d calls, want %v, %d, of\n%s", m.Steps(), f, depth, g, want, text)
	}
}

// Ahead of everything, at each record and behind the end, of copies too.
func TestInner(t *testing.T) {
	for _, text := range append(append([]string{manyLists}, ordinary...), stock...) {
		m := started(t, built(t, text), 200, 3, 5, 1, 4, 2)
		for next := true; next; next = m.Next() {
			before := momentOf(m, true)
			wantInner(t, text, m)
			wantInner(t, text, m.Copy())
			if got := momentOf(m, true); got != before {
				t.Fatalf("Inner changed a machine of\n%s\nto\n%s\nfrom\n%s", text, got, before)
			}
		}
		wantInner(t, text, m)
	}
}

func TestInnerOfTheDeepestCall(t *testing.T) {
	m := started(t, built(t, "func main() { f(1); }\nfunc f(n) { f(n); }"), 999)
	for range api.MaxCalls {
		m.Next()
	}
	if f, depth := m.Inner(); f.Call != 63 || f.Func != 1 || f.Stmt != 1 || f.Record != 63 || f.Names != nil || depth != 64 {
		t.Errorf("the innermost call is %v, %d calls", f, depth)
	}
	if f, depth := started(t, built(t, "func main() { }"), 9).Inner(); !reflect.DeepEqual(f, mach.Frame{}) || depth != 0 {
		t.Errorf("ahead of everything the innermost call is %v, %d calls", f, depth)
	}
	// A call whose first instructions are no statement's.
	c, _, e := code.Parse("proc main 0 0 4\nconst 1\npop\nmark 0\nreturn 0\n")
	if e != api.OK {
		t.Fatal(e)
	}
	m = started(t, c, 9)
	m.Next()
	wantInner(t, "no program", m)
}

// wantValues: of each spot that calls have what Frames says, and of those around them nothing.
func wantValues(t *testing.T, text string, m *mach.Machine) {
	t.Helper()
	l := m.Frames()
	for _, f := range l {
		for slot, v := range f.Names {
			if n, there := m.Value(mach.Spot{Call: f.Call, Slot: slot, Place: -1}); n != v.N || !there {
				t.Fatalf("the call %d has in its slot %d the value %d, %t, want %d, of\n%s", f.Call, slot, n, there, v.N, text)
			}
			for place, want := range v.List {
				if n, there := m.Value(mach.Spot{Call: f.Call, Slot: slot, Place: place}); n != want || !there {
					t.Fatalf("the call %d has in its slot %d, place %d, the value %d, %t, want %d, of\n%s", f.Call, slot, place, n, there, want, text)
				}
			}
			wantNoValue(t, text, m, mach.Spot{Call: f.Call, Slot: slot, Place: len(v.List)}, mach.Spot{Call: f.Call, Slot: slot, Place: -2}, mach.Spot{Call: f.Call, Slot: slot, Place: math.MaxInt}, mach.Spot{Call: f.Call, Slot: slot, Place: math.MinInt})
		}
		slots := len(f.Names)
		wantNoValue(t, text, m, mach.Spot{Call: f.Call, Slot: slots, Place: -1}, mach.Spot{Call: f.Call, Slot: -1, Place: -1}, mach.Spot{Call: f.Call, Slot: math.MaxInt, Place: -1}, mach.Spot{Call: f.Call, Slot: slots, Place: 0})
	}
	for number := range m.Steps() + 2 {
		if !slices.ContainsFunc(l, func(f mach.Frame) bool { return f.Call == number }) {
			wantNoValue(t, text, m, mach.Spot{Call: number, Place: -1}, mach.Spot{Call: number})
		}
	}
	wantNoValue(t, text, m, mach.Spot{Call: -1, Place: -1}, mach.Spot{Call: math.MaxInt, Place: -1})
}

func wantNoValue(t *testing.T, text string, m *mach.Machine, spots ...mach.Spot) {
	t.Helper()
	for _, s := range spots {
		if n, there := m.Value(s); n != 0 || there {
			t.Fatalf("where there is no spot %v its value is %d, %t, of\n%s", s, n, there, text)
		}
	}
}

func TestValue(t *testing.T) {
	for _, text := range append(append([]string{manyLists}, ordinary...), stock...) {
		m := started(t, built(t, text), 100, 3, 5, 1, 4, 2)
		wantValues(t, text, m)
		for m.Next() {
			before := momentOf(m, true)
			wantValues(t, text, m)
			wantValues(t, text, m.Copy())
			if got := momentOf(m, true); got != before {
				t.Fatalf("Value changed a machine of\n%s\nto\n%s\nfrom\n%s", text, got, before)
			}
		}
		wantValues(t, text, m)
	}
}
