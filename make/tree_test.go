package make_test

import (
	"math"
	"math/rand"
	"reflect"
	"runtime/debug"
	"slices"
	"testing"

	"rewind/api"
	"rewind/check"
	"rewind/code"
	"rewind/make"
	"rewind/print"
)

// Nothing is promised of programs that no text has, but that a call ends, and doesn't panic; no code is beside an error.

func wantNoPanic(t *testing.T, p api.Tree, info check.Info) {
	t.Helper()
	if c, e := make.Make(p, info); e != api.OK && (e != api.ErrDeep || !reflect.DeepEqual(c, code.Code{})) {
		t.Errorf("P7: Make of %v: %v, %d", p, c, e)
	}
	for at := -2; at < len(p.Exprs)+2; at++ {
		make.High(p, at)
	}
}

// odd: a place in place of another one, or a number.
func odd(r *rand.Rand, n int) int {
	return []int{-1, 0, n, n + 1, r.Intn(40), -n, math.MaxInt, math.MinInt}[r.Intn(8)]
}

func changed(r *rand.Rand, p api.Tree) api.Tree {
	p = withoutSpans(p)
	for range 1 + r.Intn(3) {
		x, s, f := &p.Exprs[r.Intn(len(p.Exprs))], &p.Stmts[r.Intn(len(p.Stmts))], &p.Funcs[r.Intn(len(p.Funcs))]
		switch r.Intn(11) {
		case 0:
			x.Kind = r.Intn(12) - 1
		case 1:
			x.A = odd(r, x.A)
		case 2:
			x.B = odd(r, x.B)
		case 3:
			x.Op = []string{"", "+", "&&", "||", "!", "x"}[r.Intn(6)]
		case 4:
			x.List = append(slices.Clone(x.List), odd(r, 3))
		case 5:
			s.Kind = r.Intn(14) - 1
		case 6:
			s.A = odd(r, s.A)
		case 7:
			s.B = odd(r, s.B)
		case 8:
			s.Then = append(slices.Clone(s.Then), odd(r, 3))
		case 9:
			s.Else = append(slices.Clone(s.Else), odd(r, 3))
		default:
			f.Body = append(slices.Clone(f.Body), odd(r, 3))
		}
	}
	return p
}

func TestProgramsOfOtherMakers(t *testing.T) {
	wantNoPanic(t, api.Tree{}, check.Info{})
	r := rand.New(rand.NewSource(113))
	programs(t, 1000, 114, func(text string) {
		p, info := right(t, text)
		wantNoPanic(t, p, check.Info{})
		if len(p.Exprs) == 0 || len(p.Stmts) == 0 {
			return
		}
		for range 10 {
			wantNoPanic(t, changed(r, p), info)
		}
	})
}

func wantNoCode(t *testing.T, p api.Tree, info check.Info) {
	t.Helper()
	if c, e := make.Make(p, info); e != api.ErrDeep || !reflect.DeepEqual(c, code.Code{}) {
		t.Errorf("Make of %v: %v, %d, want %d", p, c, e, api.ErrDeep)
	}
	wantNoPanic(t, p, info)
}

func TestWhatLeadsBackOrNowhere(t *testing.T) {
	p, info := right(t, "func main() { while 1 + 2 < 3 { if true { } } }")
	for _, at := range []int{p.Stmts[1].A, -7, len(p.Exprs)} {
		q := withoutSpans(p)
		q.Exprs[p.Stmts[1].A].A = at
		wantNoCode(t, q, info)
	}
	for _, at := range []int{0, 1, -1, len(p.Stmts)} {
		q := withoutSpans(p)
		q.Stmts[0].Else = []int{at}
		wantNoCode(t, q, info)
	}
	for _, at := range []int{-1, len(p.Exprs), math.MinInt} {
		if high := make.High(p, at); high != 0 {
			t.Errorf("High of what isn't there: %d", high)
		}
	}
}

// A part may stand behind the whole: heights and code are the same.
func TestPlacesInAnyOrder(t *testing.T) {
	r := rand.New(rand.NewSource(115))
	programs(t, 300, 116, func(text string) {
		p, info := right(t, text)
		want, _ := make.Make(p, info)
		to := r.Perm(len(p.Exprs))
		q, qInfo := moved(p, info, to)
		if print.Print(q) != print.Print(p) {
			t.Fatalf("%v isn't the program of %s", q, text)
		}
		if c, e := make.Make(q, qInfo); e != api.OK || !reflect.DeepEqual(c, want) {
			t.Errorf("P11.1: of %s\nwith other places: %v, %d, want %v", text, c, e, want)
		}
		for at := range p.Exprs {
			if got, want := make.High(q, to[at]), make.High(p, at); got != want {
				t.Errorf("P11.1: of %s\nwith other places High is %d, want %d", text, got, want)
			}
		}
	})
}

// moved: the same program, its expressions at other places.
func moved(p api.Tree, info check.Info, to []int) (api.Tree, check.Info) {
	out := withoutSpans(p)
	info.Type, info.Slot = slices.Clone(info.Type), slices.Clone(info.Slot)
	types, slots := slices.Clone(info.Type), slices.Clone(info.Slot)
	for at, x := range p.Exprs {
		if x.Kind == api.EIndex || x.Kind == api.EUnary || x.Kind == api.EPair {
			x.A = to[x.A]
		}
		if x.Kind == api.EPair {
			x.B = to[x.B]
		}
		x.List = slices.Clone(x.List)
		for n, a := range x.List {
			x.List[n] = to[a]
		}
		out.Exprs[to[at]], info.Type[to[at]], info.Slot[to[at]] = x, types[at], slots[at]
	}
	for n, s := range p.Stmts {
		if s.Kind != api.SArray && s.Kind != api.SBreak && s.Kind != api.SContinue && s.A >= 0 {
			out.Stmts[n].A = to[s.A]
		}
		if s.Kind == api.SPut {
			out.Stmts[n].B = to[s.B]
		}
	}
	return out, info
}

// withSmallStack: what calls itself for each part of parts ends the test's run, if parts are as deep as here.
func withSmallStack(t *testing.T) {
	t.Helper()
	was := debug.SetMaxStack(1 << 20)
	t.Cleanup(func() { debug.SetMaxStack(was) })
}

// A program may be deeper than calls can be.
func TestDeepTrees(t *testing.T) {
	const many = 100000
	p := api.Tree{Exprs: []api.Expr{{Kind: api.ETrue}}, Stmts: []api.Stmt{{Kind: api.SPrint}}}
	info := check.Info{Type: []int{api.Bool}, Slot: []int{-1}, Put: []int{-1}, Func: []int{0}, Slots: [][]int{nil}}
	for n := range many {
		p.Exprs = append(p.Exprs, api.Expr{Kind: api.EUnary, Op: "!", A: n})
		info.Type, info.Slot = append(info.Type, api.Bool), append(info.Slot, -1)
	}
	p.Stmts[0].A = many
	for n := range 400 {
		p.Exprs = append(p.Exprs, api.Expr{Kind: api.ETrue})
		info.Type, info.Slot = append(info.Type, api.Bool), append(info.Slot, -1)
		p.Stmts = append(p.Stmts, api.Stmt{Kind: api.SWhile, A: many + 1 + n, Then: []int{n}})
		info.Put, info.Func = append(info.Put, -1), append(info.Func, 0)
	}
	p.Funcs = []api.Func{{Name: "main", Type: api.Unit, Body: []int{400}}}
	withSmallStack(t)
	if got := make.High(p, many); got != 1 {
		t.Errorf("P11.1: High of a row of signs: %d", got)
	}
	c, e := make.Make(p, info)
	if e != api.OK || !code.Good(c) || len(c.List) != many+3+400*4+1 {
		t.Errorf("P11.1: Make of a row of signs in whiles: %d instructions, %d", len(c.List), e)
	}
}
