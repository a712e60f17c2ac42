package page

import (
	"math"
	"slices"
	"strings"
	"testing"
	"unsafe"

	"rewind/api"
)

func span(from, to int) api.Span { return api.Span{From: from, To: to} }

// smallTexts: all texts of up to n bytes, each of them an a or the byte 10.
func smallTexts(n int) []string {
	all := []string{""}
	for from := 0; n > 0; n-- {
		to := len(all)
		for _, s := range all[from:to] {
			all = append(all, s+"a", s+"\n")
		}
		from = to
	}
	return all
}

// told: a place's line and column, counted as the chapter's words say it.
func told(text string, at int) (int, int) {
	return 1 + strings.Count(text[:at], "\n"), at - strings.LastIndex(text[:at], "\n")
}

func TestPlaceTellsLineAndColumn(t *testing.T) {
	for _, c := range []struct {
		text         string
		at           int
		line, column int
	}{
		{"ab\nc", 0, 1, 1},
		{"ab\nc", 2, 1, 3},
		{"ab\nc", 3, 2, 1},
		{"ab\nc", 4, 2, 2},
		{"", 0, 1, 1},
		{"\n", 0, 1, 1},
		{"\n", 1, 2, 1},
		{"a\n\n\nb\n", 3, 3, 1},
		{"a\n\n\nb\n", 6, 5, 1},
		{"\r\nx", 1, 1, 2},
		{"é\xff\n", 3, 1, 4},
	} {
		line, column, e := Place(c.text, c.at)
		if line != c.line || column != c.column || e != api.OK {
			t.Errorf("P1.1: Place(%q, %d): %d, %d, %d, want %d, %d", c.text, c.at, line, column, e, c.line, c.column)
		}
	}
	for _, text := range smallTexts(6) {
		for at := range len(text) + 1 {
			wantLine, wantColumn := told(text, at)
			line, column, e := Place(text, at)
			if line != wantLine || column != wantColumn || e != api.OK {
				t.Errorf("P1.1: Place(%q, %d): %d, %d, %d, want %d, %d", text, at, line, column, e, wantLine, wantColumn)
			}
		}
	}
}

func TestPlaceOutsideTheText(t *testing.T) {
	for _, text := range []string{"", "a", "\n", "ab\nc", "ab\n"} {
		for _, at := range []int{math.MinInt, -2, -1, len(text) + 1, len(text) + 2, math.MaxInt} {
			if line, column, e := Place(text, at); line != 0 || column != 0 || e != api.ErrRange {
				t.Errorf("P1.1: Place(%q, %d): %d, %d, %d, want 0, 0, ErrRange", text, at, line, column, e)
			}
		}
	}
}

func TestAtTellsThePlace(t *testing.T) {
	for _, c := range []struct {
		text             string
		line, column, at int
	}{
		{"ab\nc", 1, 1, 0},
		{"ab\nc", 1, 3, 2},
		{"ab\nc", 2, 1, 3},
		{"ab\nc", 2, 2, 4},
		{"", 1, 1, 0},
		{"\n\n", 2, 1, 1},
		{"\n\n", 3, 1, 2},
	} {
		if at, e := At(c.text, c.line, c.column); at != c.at || e != api.OK {
			t.Errorf("P1.1: At(%q, %d, %d): %d, %d, want %d", c.text, c.line, c.column, at, e, c.at)
		}
	}
}

// Each line and column that some place has leads to that place, and all others to none.
func TestAtGoesBackOverPlace(t *testing.T) {
	for _, text := range smallTexts(6) {
		places := map[[2]int]int{}
		for at := range len(text) + 1 {
			line, column := told(text, at)
			places[[2]int{line, column}] = at
		}
		for line := -1; line <= len(text)+3; line++ {
			for column := -1; column <= len(text)+3; column++ {
				want, ok := places[[2]int{line, column}]
				wantError := api.OK
				if !ok {
					wantError = api.ErrRange
				}
				if at, e := At(text, line, column); at != want || e != wantError {
					t.Errorf("P1.1: At(%q, %d, %d): %d, %d, want %d, %d", text, line, column, at, e, want, wantError)
				}
			}
		}
	}
}

func TestAtOutsideTheText(t *testing.T) {
	const text = "ab\n\ncd\n"
	for _, c := range [][2]int{
		{0, 1}, {-1, 1}, {5, 1}, {math.MaxInt, 1}, {math.MinInt, 1},
		{1, 0}, {1, -1}, {1, 4}, {2, 2}, {4, 2}, {3, math.MaxInt}, {4, math.MaxInt}, {3, math.MinInt},
		{0, 0}, {math.MaxInt, math.MaxInt}, {math.MinInt, math.MinInt},
	} {
		if at, e := At(text, c[0], c[1]); at != 0 || e != api.ErrRange {
			t.Errorf("P1.1: At(%d, %d): %d, %d, want 0, ErrRange", c[0], c[1], at, e)
		}
	}
}

func TestLinesAreInOrder(t *testing.T) {
	texts := append(smallTexts(6), "ab\n\ncd", "ab\ncd\n", "a\r\nb", "é\n\xff\x00", strings.Repeat("x\n", 9999))
	for _, text := range texts {
		lines := Lines(text)
		for range 2 { // P7 (R9): as often as it is gone through
			var got []string
			for n, s := range lines {
				got = append(got, s)
				if n != len(got) {
					t.Errorf("P1.1: Lines(%q): line %d has the number %d", text, len(got), n)
				}
			}
			if want := strings.Split(text, "\n"); !slices.Equal(got, want) {
				t.Errorf("P1.1: Lines(%q): %q, want %q", text, got, want)
			}
		}
	}
}

func TestLinesEndEarly(t *testing.T) {
	for _, text := range []string{"", "a", "\n", "a\nb", "a\nb\n", "\n\n\n"} {
		for stop := 1; stop <= strings.Count(text, "\n")+1; stop++ {
			asked := 0
			Lines(text)(func(n int, s string) bool {
				asked++
				return asked < stop
			})
			if asked != stop {
				t.Errorf("P1.1: Lines(%q): told to end at %d, asked %d times", text, stop, asked)
			}
		}
	}
}

func TestGood(t *testing.T) {
	for _, c := range []struct {
		s    api.Span
		size int
		want bool
	}{
		{span(0, 0), 0, true},
		{span(0, 5), 5, true},
		{span(2, 3), 5, true},
		{span(3, 3), 5, true},
		{span(5, 5), 5, true},
		{span(0, 1), 0, false},
		{span(0, 6), 5, false},
		{span(6, 6), 5, false},
		{span(3, 2), 5, false},
		{span(-1, 2), 5, false},
		{span(-2, -1), 5, false},
		{span(0, 0), -1, false},
		{span(math.MinInt, math.MaxInt), 5, false},
		{span(math.MaxInt, math.MinInt), 5, false},
		{span(0, math.MaxInt), math.MaxInt, true},
	} {
		if got := Good(c.s, c.size); got != c.want {
			t.Errorf("P1.1: Good(%v, %d): %v", c.s, c.size, got)
		}
	}
}

func TestBlankKeepsSpans(t *testing.T) {
	const text = "ab\ncd\n"
	for _, c := range []struct {
		keep []api.Span
		want string
	}{
		{nil, "  \n  \n"},
		{[]api.Span{}, "  \n  \n"},
		{[]api.Span{span(0, 6)}, text},
		{[]api.Span{span(1, 1)}, "  \n  \n"},
		{[]api.Span{span(6, 6)}, "  \n  \n"},
		{[]api.Span{span(1, 2), span(4, 5)}, " b\n d\n"},
		{[]api.Span{span(4, 5), span(1, 2)}, " b\n d\n"},
		{[]api.Span{span(0, 1), span(1, 2)}, "ab\n  \n"},
		{[]api.Span{span(0, 4), span(1, 2)}, "ab\nc \n"},
		{[]api.Span{span(1, 4), span(0, 2), span(3, 3)}, "ab\nc \n"},
		{[]api.Span{span(2, 3)}, "  \n  \n"},
	} {
		if got, e := Blank(text, c.keep...); got != c.want || e != api.OK {
			t.Errorf("P1.1: Blank(%v): %q, %d, want %q", c.keep, got, e, c.want)
		}
	}
	if got, e := Blank("", span(0, 0)); got != "" || e != api.OK {
		t.Errorf("P1.1: Blank of the empty text: %q, %d", got, e)
	}
	if got, e := Blank("\t\r\x00é\xff", span(1, 2)); got != " \r    " || e != api.OK {
		t.Errorf("P1.1: Blank of other bytes: %q, %d", got, e)
	}
}

func TestBlankOfNoSpan(t *testing.T) {
	const text = "ab\ncd\n"
	for _, s := range []api.Span{span(-1, 2), span(2, 1), span(0, 7), span(7, 7), span(-1, -1), span(math.MinInt, math.MaxInt), span(math.MaxInt, math.MinInt)} {
		for _, keep := range [][]api.Span{{s}, {span(0, 2), s}, {s, span(0, 6)}} {
			if got, e := Blank(text, keep...); got != "" || e != api.ErrRange {
				t.Errorf("P1.1: Blank(%v): %q, %d, want ErrRange", keep, got, e)
			}
		}
	}
}

// pairsOfSpans: no span, each one, and each two, of bounds from 0 to n.
func pairsOfSpans(n int) [][]api.Span {
	var all []api.Span
	for from := range n + 1 {
		for to := range n + 1 {
			all = append(all, span(from, to))
		}
	}
	out := [][]api.Span{nil}
	for _, a := range all {
		out = append(out, []api.Span{a})
		for _, b := range all {
			out = append(out, []api.Span{a, b})
		}
	}
	return out
}

func inSome(l []api.Span, at int) bool {
	return slices.ContainsFunc(l, func(s api.Span) bool { return s.From <= at && at < s.To })
}

func TestBlankedTextKeepsItsShape(t *testing.T) {
	for _, text := range []string{"", "\n\n\n\n", "ab\nc", "a\nb\n", "abcd"} {
		for _, keep := range pairsOfSpans(len(text)) {
			once, e := Blank(text, keep...)
			if e != api.OK {
				continue
			}
			if len(once) != len(text) || strings.Count(once, "\n") != strings.Count(text, "\n") {
				t.Errorf("P1.2: Blank(%q, %v): %q: another shape", text, keep, once)
			}
			if twice, f := Blank(once, keep...); twice != once || f != api.OK {
				t.Errorf("P1.2: Blank(%q, %v): %q, and again %q, %d", text, keep, once, twice, f)
			}
			for at := range min(len(text), len(once)) {
				want := text[at]
				if want != '\n' && !inSome(keep, at) {
					want = ' '
				}
				if once[at] != want {
					t.Errorf("P1.1: Blank(%q, %v): %q at %d", text, keep, once, at)
				}
			}
		}
	}
}

func TestCoverJoinsSpans(t *testing.T) {
	for _, c := range []struct{ l, want []api.Span }{
		{nil, nil},
		{[]api.Span{}, nil},
		{[]api.Span{span(3, 3), span(5, 2), span(0, 0)}, nil},
		{[]api.Span{span(2, 4)}, []api.Span{span(2, 4)}},
		{[]api.Span{span(2, 4), span(4, 6)}, []api.Span{span(2, 6)}},
		{[]api.Span{span(4, 6), span(2, 4)}, []api.Span{span(2, 6)}},
		{[]api.Span{span(2, 4), span(5, 6)}, []api.Span{span(2, 4), span(5, 6)}},
		{[]api.Span{span(2, 5), span(4, 6)}, []api.Span{span(2, 6)}},
		{[]api.Span{span(0, 9), span(2, 3)}, []api.Span{span(0, 9)}},
		{[]api.Span{span(0, 9), span(2, 3), span(8, 10)}, []api.Span{span(0, 10)}},
		{[]api.Span{span(7, 8), span(7, 8)}, []api.Span{span(7, 8)}},
		{[]api.Span{span(2, 4), span(4, 4), span(5, 5), span(6, 7)}, []api.Span{span(2, 4), span(6, 7)}},
		{[]api.Span{span(9, 10), span(6, 6), span(0, 1), span(5, 7), span(1, 3)}, []api.Span{span(0, 3), span(5, 7), span(9, 10)}},
		{[]api.Span{span(math.MaxInt-1, math.MaxInt), span(0, 1)}, []api.Span{span(0, 1), span(math.MaxInt-1, math.MaxInt)}},
	} {
		if got := Cover(c.l...); !slices.Equal(got, c.want) {
			t.Errorf("P1.1: Cover(%v): %v, want %v", c.l, got, c.want)
		}
	}
}

func TestCoverOfPairs(t *testing.T) {
	const size = 5
	for _, l := range pairsOfSpans(size) {
		for _, more := range []api.Span{span(2, 3), span(4, 1)} {
			all := append(slices.Clone(l), more)
			got := Cover(all...)
			for at := range size {
				if inSome(got, at) != inSome(all, at) {
					t.Errorf("P1.1: Cover(%v): %v at %d", all, got, at)
				}
			}
			for i, s := range got {
				if s.From >= s.To || i > 0 && got[i-1].To >= s.From {
					t.Errorf("P1.1: Cover(%v): %v: empty, not rising, or too many", all, got)
				}
			}
		}
	}
}

func TestCut(t *testing.T) {
	const text = "ab\ncd\n"
	for s, want := range map[api.Span]string{
		span(0, 6):                       text,
		span(1, 4):                       "b\nc",
		span(5, 6):                       "\n",
		span(0, 0):                       "",
		span(3, 3):                       "",
		span(6, 6):                       "",
		span(3, 2):                       "",
		span(-1, 2):                      "",
		span(5, 7):                       "",
		span(7, 7):                       "",
		span(math.MinInt, math.MaxInt):   "",
		span(math.MaxInt-1, math.MaxInt): "",
	} {
		if got := Cut(text, s); got != want {
			t.Errorf("P1.1: Cut(%v): %q, want %q", s, got, want)
		}
	}
	if got := Cut("", span(0, 0)); got != "" {
		t.Errorf("P1.1: Cut of the empty text: %q", got)
	}
}

func TestSpansHandedInStay(t *testing.T) {
	given := []api.Span{span(4, 6), span(3, 3), span(0, 2), span(1, 3), span(5, 5), span(2, 4)}
	for n := range len(given) + 1 {
		was := slices.Clone(given)
		got := Cover(given[:n]...)
		if _, e := Blank("abcdefgh", given[:n]...); e != api.OK {
			t.Errorf("P1.1: Blank(%v): %d", given[:n], e)
		}
		if !slices.Equal(given, was) {
			t.Fatalf("P1.3: of %v, the first %d handed in: it is %v", was, n, given)
		}
		whole := got[:cap(got)]
		for i := range whole {
			whole[i] = span(-7, -7)
		}
		if !slices.Equal(given, was) {
			t.Fatalf("P1.3: Cover's answer shares memory with %v", was)
		}
	}
}

func TestCoverAnswersNewMemoryEachTime(t *testing.T) {
	given := []api.Span{span(0, 2), span(5, 6)}
	first := Cover(given...)
	first[0] = span(8, 9)
	if second := Cover(given...); !slices.Equal(second, given) {
		t.Errorf("P1.3: Cover(%v) again: %v", given, second)
	}
}

// shares: does a string that has bytes stand within the memory of another one?
func shares(part, whole string) bool {
	if part == "" || whole == "" {
		return false
	}
	from := uintptr(unsafe.Pointer(unsafe.StringData(whole)))
	at := uintptr(unsafe.Pointer(unsafe.StringData(part)))
	return from <= at && at < from+uintptr(len(whole))
}

func TestTextsAnsweredAreNewMemory(t *testing.T) {
	text := strings.Repeat("abc\n", 5) + "xyz"
	whole := span(0, len(text))
	if got := Cut(text, whole); got != text || shares(got, text) {
		t.Errorf("P1.3: Cut of the whole: %q shares memory", got)
	}
	if got := Cut(text, span(4, 11)); shares(got, text) {
		t.Errorf("P1.3: Cut: %q shares memory", got)
	}
	if got, _ := Blank(text, whole); got != text || shares(got, text) {
		t.Errorf("P1.3: Blank: %q shares memory", got)
	}
	for n, s := range Lines(text) {
		if shares(s, text) {
			t.Errorf("P1.3: Lines: line %d shares memory", n)
		}
	}
}

// The longest text, with as many spans as it has bytes, all of them long: it still ends soon.
func TestLongestText(t *testing.T) {
	text := strings.Repeat("abc\n", api.MaxText/4)
	var keep []api.Span
	for at := range len(text) {
		keep = append(keep, span(len(text)-at-1, len(text)))
	}
	if got, e := Blank(text, keep...); got != text || e != api.OK {
		t.Errorf("P6: Blank of the longest text: %d bytes, %d", len(got), e)
	}
	if got := Cover(keep...); !slices.Equal(got, []api.Span{span(0, len(text))}) {
		t.Errorf("P6: Cover of %d spans: %v", len(keep), got)
	}
	line, column, e := Place(text, len(text))
	if line != api.MaxText/4+1 || column != 1 || e != api.OK {
		t.Errorf("P6: Place behind the longest text: %d, %d, %d", line, column, e)
	}
	if at, e := At(text, line, column); at != len(text) || e != api.OK {
		t.Errorf("P6: At behind the longest text: %d, %d", at, e)
	}
}
