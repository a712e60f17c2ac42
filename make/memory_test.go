package make_test

import (
	"reflect"
	"slices"
	"testing"

	"rewind/api"
	"rewind/code"
	"rewind/make"
)

// scribble changes a list, spare room too.
func scribble[T any](x T, l []T) {
	for i := range l[:cap(l)] {
		l[:cap(l)][i] = x
	}
}

func TestAnswersAreNewMemory(t *testing.T) {
	for _, text := range ordinary {
		p, info := right(t, text)
		want, _ := make.Make(p, info)
		c, _ := make.Make(p, info)
		scribble(code.Proc{Name: "x"}, c.Procs)
		scribble(code.Instr{Op: 99}, c.List)
		again, e := make.Make(p, info)
		if e != api.OK || !reflect.DeepEqual(again, want) {
			t.Errorf("P7: of %s\nan answer was changed by what was done to an earlier one", text)
		}
		if other, otherInfo := right(t, text); !reflect.DeepEqual(p, other) || !reflect.DeepEqual(info, otherInfo) {
			t.Errorf("P7: of %s\nthe program was changed by what was done to an answer", text)
		}
	}
}

// withSpareRoom: a list with things behind it.
func withSpareRoom[T any](l []T, spare T) []T {
	return append(slices.Clone(l), spare, spare)[:len(l)]
}

func allOf[T any](l []T) []T { return slices.Clone(l[:cap(l)]) }

func TestWhatIsHandedInStays(t *testing.T) {
	for _, text := range ordinary {
		p, info := right(t, text)
		want, _ := make.Make(p, info)
		p.Exprs = withSpareRoom(p.Exprs, api.Expr{Kind: 77, A: -5, Num: 1})
		p.Stmts = withSpareRoom(p.Stmts, api.Stmt{Kind: 77, A: -5, Num: 1})
		p.Funcs = withSpareRoom(p.Funcs, api.Func{Name: "spare", Body: []int{-4}})
		for n, f := range p.Funcs {
			p.Funcs[n].Body = withSpareRoom(f.Body, -3)
		}
		for n, s := range p.Stmts {
			p.Stmts[n].Then, p.Stmts[n].Else = withSpareRoom(s.Then, -3), withSpareRoom(s.Else, -3)
		}
		for n, x := range p.Exprs {
			p.Exprs[n].List = withSpareRoom(x.List, -3)
		}
		info.Type, info.Slot, info.Put = withSpareRoom(info.Type, -2), withSpareRoom(info.Slot, -2), withSpareRoom(info.Put, -2)
		exprs, stmts, funcs, types, slots, puts := allOf(p.Exprs), allOf(p.Stmts), allOf(p.Funcs), allOf(info.Type), allOf(info.Slot), allOf(info.Put)
		if c, e := make.Make(p, info); e != api.OK || !reflect.DeepEqual(c, want) {
			t.Errorf("P7: of %s\nan answer hangs on spare room: %v, %d", text, c, e)
		}
		for at := range p.Exprs {
			make.High(p, at)
		}
		if !reflect.DeepEqual(exprs, allOf(p.Exprs)) || !reflect.DeepEqual(stmts, allOf(p.Stmts)) || !reflect.DeepEqual(funcs, allOf(p.Funcs)) {
			t.Errorf("P7: of %s\nthe program, or its spare room, was changed", text)
		}
		if !slices.Equal(types, allOf(info.Type)) || !slices.Equal(slots, allOf(info.Slot)) || !slices.Equal(puts, allOf(info.Put)) {
			t.Errorf("P7: of %s\nwhat is known, or its spare room, was changed", text)
		}
		for _, s := range p.Stmts {
			if l := append(allOf(s.Then)[len(s.Then):], allOf(s.Else)[len(s.Else):]...); slices.ContainsFunc(l, func(n int) bool { return n != -3 && n != 0 }) {
				t.Errorf("P7: of %s\na statement's spare room was changed: %d", text, l)
			}
		}
	}
}

func TestTheSameEachTime(t *testing.T) {
	programs(t, 100, 112, func(text string) {
		p, info := right(t, text)
		want, _ := make.Make(p, info)
		for range 3 {
			if c, e := make.Make(p, info); e != api.OK || !reflect.DeepEqual(c, want) {
				t.Errorf("P7: of %s\nthe code is %v, and then %v, %d", text, want, c, e)
			}
		}
	})
}
