package make_test

import (
	"math"
	"math/rand"
	"slices"
	"testing"

	"rewind/api"
	"rewind/code"
	"rewind/make"
	"rewind/syntax"
)

// programs gives some right programs by chance.
func programs(t *testing.T, many int, seed int64, use func(text string)) {
	t.Helper()
	r := rand.New(rand.NewSource(seed))
	for n := 0; n < many && !t.Failed(); {
		text := byChance(r)
		if _, _, e := syntax.Parse(text); e == api.ErrLong {
			continue
		}
		n++
		use(text)
	}
}

func inputsByChance(r *rand.Rand) []int {
	var out []int
	for range r.Intn(60) {
		out = append(out, []int{0, 1, 2, 5, -1, math.MinInt, math.MaxInt, r.Intn(100)}[r.Intn(8)])
	}
	return out
}

// Whatever a program is given, the code does what the program does: its statements, what each reads and writes, its output, its end.
func TestTheCodeDoesWhatTheProgramDoes(t *testing.T) {
	r := rand.New(rand.NewSource(11))
	ends, ops, begun, several := map[api.Errno]int{}, map[int]int{}, 0, 0
	programs(t, 4000, 110, func(text string) {
		p, info := right(t, text)
		c := made(t, text)
		for range 3 {
			steps, inputs := r.Intn(300), inputsByChance(r)
			want := walked(p, info, steps, slices.Clone(inputs))
			got := ran(c, steps, slices.Clone(inputs), ops)
			if !got.same(want) {
				t.Fatalf("P11.1: with %d steps and %d\n%s\ndoes\n%v\n%q %d, want\n%v\n%q %d", steps, inputs, text, got.events, got.out.String(), got.end, want.events, want.out.String(), want.end)
			}
			ends[got.end]++
			begun += steps - got.steps
			if steps-got.steps > len(p.Stmts) {
				several++
			}
		}
	})
	for _, e := range []api.Errno{api.OK, api.ErrZero, api.ErrIndex, api.ErrInput, api.ErrStack, api.ErrSpent} {
		if ends[e] < 50 {
			t.Errorf("only %d runs end with %d: %v", ends[e], e, ends)
		}
	}
	for op := code.Mark; op <= code.Pop; op++ {
		if ops[op] < 300 {
			t.Errorf("only %d of the Op %d were run: %v", ops[op], op, ops)
		}
	}
	if begun < 100000 || several < 1000 {
		t.Errorf("only %d statements began, in %d runs some several times", begun, several)
	}
}

// High, and the heights that chapter 10 tells of the code: as a statement begins nothing is on the stack, and then as much as its expressions are high.
func TestHeightsOfTheCode(t *testing.T) {
	reached, unreached, greatest := 0, 0, 0
	programs(t, 2000, 111, func(text string) {
		p, info := right(t, text)
		c, _ := make.Make(p, info)
		heights, _ := code.Heights(c)
		for at := range p.Exprs {
			if got, want := make.High(p, at), highByWords(p, at); got != want {
				t.Errorf("P11.1: of %s\nHigh of %d: %d, want %d", text, at, got, want)
			}
		}
		for n, x := range c.List {
			if x.Op != code.Mark {
				continue
			}
			want := statementHigh(p, x.Arg)
			switch got := highest(c, heights, n+1); {
			case heights[n] == -1:
				unreached++
			case heights[n] != 0:
				t.Errorf("P11.1: of %s\n%d begins with %d on the stack", text, x.Arg, heights[n])
			case want > 0 && max(got, 1) != want:
				t.Errorf("P11.1: of %s\nthe statement %d puts %d on the stack, want %d", text, x.Arg, got, want)
			default:
				reached++
				greatest = max(greatest, got)
			}
		}
	})
	if reached < 3000 || unreached < 300 || greatest < 6 {
		t.Errorf("%d statements are reached, %d not; the highest puts %d on the stack", reached, unreached, greatest)
	}
}

// highest: of the instructions from a place on, up to the next mark, or to the first that is behind the statement's own.
func highest(c code.Code, heights []int, from int) int {
	out := 0
	for n := from; n < len(c.List) && c.List[n].Op != code.Mark; n++ {
		out = max(out, heights[n])
		if slices.Contains([]int{code.Store, code.StoreAt, code.JumpNot, code.Return, code.Print1, code.Pop}, c.List[n].Op) {
			break
		}
	}
	return out
}
