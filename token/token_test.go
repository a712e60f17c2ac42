package token

import (
	"math"
	"math/rand"
	"regexp"
	"slices"
	"strings"
	"testing"
	"unsafe"

	"rewind/api"
)

const allSigns = "== != <= >= && || + - * / % < > ! = ( ) { } [ ] , ;"

const allWords = "func int var if else while break continue return print read true false"

func tok(kind, from, to int) api.Token {
	return api.Token{Kind: kind, Span: api.Span{From: from, To: to}}
}

// none: what Next tells where no token stands.
func none(at int) api.Token { return tok(api.End, at, at) }

func wantAll(t *testing.T, text string, want ...api.Token) {
	t.Helper()
	want = append(want, tok(api.End, len(text), len(text)))
	if got, at, e := All(text); !slices.Equal(got, want) || at != 0 || e != api.OK {
		t.Errorf("P2.1: All(%q): %v, %d, %d, want %v", text, got, at, e, want)
	}
}

func wantNone(t *testing.T, text string, at int, want api.Errno) {
	t.Helper()
	if l, x, e := All(text); len(l) != 0 || x != at || e != want {
		t.Errorf("P2.1: All of %d bytes, %.40q: %d tokens, %d, %d, want none, %d, %d", len(text), text, len(l), x, e, at, want)
	}
}

func wantNext(t *testing.T, text string, at int, want api.Token, wantError api.Errno) {
	t.Helper()
	if got, e := Next(text, at); got != want || e != wantError {
		t.Errorf("P2.1: Next(%.40q, %d): %v, %d, want %v, %d", text, at, got, e, want, wantError)
	}
}

// wantOne: a text is one token of a kind, with blanks around it or without.
func wantOne(t *testing.T, kind int, text string) {
	t.Helper()
	wantAll(t, text, tok(kind, 0, len(text)))
	wantAll(t, "\t#x\n"+text+" # 1", tok(kind, 4, 4+len(text)))
	wantNext(t, text, 0, tok(kind, 0, len(text)), api.OK)
	wantNext(t, "a \r"+text+"\n", 1, tok(kind, 3, 3+len(text)), api.OK)
}

func TestNames(t *testing.T) {
	for _, s := range []string{"a", "z", "A", "Z", "_", "x1", "_0", "__", "aZ_09", "main", strings.Repeat("a9_", 100)} {
		wantOne(t, api.Name, s)
	}
}

func TestWordsAreWords(t *testing.T) {
	for _, s := range strings.Fields(allWords) {
		wantOne(t, api.Word, s)
	}
}

func TestNamesBesideWords(t *testing.T) {
	for _, s := range strings.Fields(allWords) {
		for _, name := range []string{s + "x", s + "_", s + "0", "_" + s, "x" + s, s + s, strings.ToUpper(s), strings.ToUpper(s[:1]) + s[1:], s[:len(s)-1]} {
			wantOne(t, api.Name, name)
		}
	}
	wantOne(t, api.Name, "bool")
}

func TestNumbers(t *testing.T) {
	for _, s := range []string{"0", "1", "9", "10", "100", "1000001", "1234567890", strings.Repeat("9", 18), "1" + strings.Repeat("0", 17)} {
		wantOne(t, api.Number, s)
	}
}

func TestSigns(t *testing.T) {
	for _, s := range strings.Fields(allSigns) {
		wantOne(t, api.Sign, s)
	}
}

func TestSignsOfTwoBytesBesideThoseOfOne(t *testing.T) {
	for text, want := range map[string]string{
		"===":      "== =",
		"====":     "== ==",
		"!==":      "!= =",
		"!!=":      "! !=",
		"<==":      "<= =",
		"<<=":      "< <=",
		">>==":     "> >= =",
		"=<":       "= <",
		"=>":       "= >",
		"=!":       "= !",
		"= =":      "= =",
		"<#\n=":    "< =",
		"&&&&":     "&& &&",
		"||&&":     "|| &&",
		"<>":       "< >",
		"--":       "- -",
		"!=<":      "!= <",
		"+-*/%":    "+ - * / %",
		"(){}[],;": "( ) { } [ ] , ;",
	} {
		l, at, e := All(text)
		got := strings.Join(Text(text, l), " ")
		if got != want+" " || at != 0 || e != api.OK {
			t.Errorf("P2.1: All(%q): %q, %d, %d, want %q", text, got, at, e, want)
		}
		for _, x := range l {
			if (x.Kind == api.Sign) != (x.Span.From < len(text)) {
				t.Errorf("P2.1: All(%q): %v", text, l)
			}
		}
	}
}

func TestTokensInARow(t *testing.T) {
	wantAll(t, "x<=10", tok(api.Name, 0, 1), tok(api.Sign, 1, 3), tok(api.Number, 3, 5))
	wantAll(t, "var a[3];", tok(api.Word, 0, 3), tok(api.Name, 4, 5), tok(api.Sign, 5, 6), tok(api.Number, 6, 7), tok(api.Sign, 7, 8), tok(api.Sign, 8, 9))
	wantAll(t, "-5", tok(api.Sign, 0, 1), tok(api.Number, 1, 2))
	wantAll(t, "a-1", tok(api.Name, 0, 1), tok(api.Sign, 1, 2), tok(api.Number, 2, 3))
	wantAll(t, "0 0", tok(api.Number, 0, 1), tok(api.Number, 2, 3))
	wantAll(t, "1#2\n3", tok(api.Number, 0, 1), tok(api.Number, 4, 5))
	wantAll(t, "if#\nif", tok(api.Word, 0, 2), tok(api.Word, 4, 6))
	wantAll(t, "a#b", tok(api.Name, 0, 1))
}

func TestBlanks(t *testing.T) {
	for _, text := range []string{
		"", " ", "\t", "\n", "\r", " \t\r\n \n", "#", "##", "# @ 01 &", "#\n", "# a\n#b", "\n#\n\n  # \xff\x00é\n\t", "#\r",
		strings.Repeat(" ", api.MaxText), strings.Repeat("#\n", api.MaxText/2),
	} {
		wantAll(t, text)
		wantNext(t, text, 0, tok(api.End, len(text), len(text)), api.OK)
		wantNext(t, text, len(text), tok(api.End, len(text), len(text)), api.OK)
	}
	wantAll(t, "# a\nb", tok(api.Name, 4, 5))
	wantAll(t, "# a\rb\nc", tok(api.Name, 6, 7))
}

func TestNoToken(t *testing.T) {
	long := strings.Repeat("1", 19)
	for _, s := range []string{
		long, long + "a", strings.Repeat("9", 1000), "1" + strings.Repeat("0", 18), strings.Repeat("0", 19),
		"00", "01", "000", "09", "0123",
		"1a", "1Z", "1_", "0x1", "0_", "12if", "7a7", strings.Repeat("9", 18) + "_",
		"&", "|", "& &", "|&", "&|", "|\n|", "&#\n&",
		"@", ".", ":", "'", "\"", "$", "?", "^", "~", "`", "\\",
		"\x00", "\v", "\f", "\x7f", "\x80", "\xff", "é", "\u00a0", "\u2028", "\u0661", "\ufeff",
	} {
		wantNone(t, s, 0, api.ErrToken)
		wantNone(t, s+" x", 0, api.ErrToken)
		wantNone(t, "x # @\n\t"+s, 7, api.ErrToken)
		wantNone(t, "x=="+s, 3, api.ErrToken)
		wantNext(t, s, 0, none(0), api.ErrToken)
		wantNext(t, "x # @\n\t"+s, 1, none(7), api.ErrToken)
	}
	wantNone(t, "&&&", 2, api.ErrToken)
	wantNone(t, "a|||b", 3, api.ErrToken)
	wantNone(t, "a.b @", 1, api.ErrToken)
	wantNone(t, "aé", 1, api.ErrToken)
	wantNone(t, "1é", 1, api.ErrToken)
}

// Each byte by itself: a letter, a digit, a sign, a blank, or no token.
func TestEachByte(t *testing.T) {
	for n := range 256 {
		s := string([]byte{byte(n)})
		switch {
		case strings.Contains("abcdefghijklmnopqrstuvwxyzABCDEFGHIJKLMNOPQRSTUVWXYZ_", s):
			wantAll(t, s, tok(api.Name, 0, 1))
			wantAll(t, "a"+s, tok(api.Name, 0, 2))
			wantNone(t, "1"+s, 0, api.ErrToken)
		case strings.Contains("0123456789", s):
			wantAll(t, s, tok(api.Number, 0, 1))
			wantAll(t, "a"+s, tok(api.Name, 0, 2))
			wantAll(t, "1"+s, tok(api.Number, 0, 2))
		case strings.Contains("+-*/%<>!=(){}[],;", s):
			wantAll(t, s, tok(api.Sign, 0, 1))
			wantAll(t, "a"+s, tok(api.Name, 0, 1), tok(api.Sign, 1, 2))
			wantAll(t, "1"+s, tok(api.Number, 0, 1), tok(api.Sign, 1, 2))
		case strings.Contains(" \t\n\r#", s):
			wantAll(t, s)
			wantAll(t, "a"+s, tok(api.Name, 0, 1))
			wantAll(t, "1"+s, tok(api.Number, 0, 1))
		default:
			wantNone(t, s, 0, api.ErrToken)
			wantNone(t, "a"+s, 1, api.ErrToken)
			wantNone(t, "1"+s, 1, api.ErrToken)
		}
	}
}

func TestLongTexts(t *testing.T) {
	wantAll(t, strings.Repeat("a", api.MaxText), tok(api.Name, 0, api.MaxText))
	for _, s := range []string{"a", " ", "#", ";", "@", "0", "\n"} {
		wantNone(t, strings.Repeat(s, api.MaxText+1), 0, api.ErrLong)
		wantNone(t, "a "+strings.Repeat(s, 10*api.MaxText), 0, api.ErrLong)
	}
	wantNone(t, strings.Repeat(" ", api.MaxText)+"@", 0, api.ErrLong)
	wantNone(t, strings.Repeat(" ", api.MaxText-1)+"@", api.MaxText-1, api.ErrToken)
	l, at, e := All(strings.Repeat(";", api.MaxText))
	if len(l) != api.MaxText+1 || at != 0 || e != api.OK {
		t.Errorf("P2.1: All of the most signs: %d, %d, %d", len(l), at, e)
	}
}

func TestNextAtPlaces(t *testing.T) {
	const text = "ab <= 100 # c1 @\nif"
	for _, c := range []struct {
		at   int
		want api.Token
	}{
		{0, tok(api.Name, 0, 2)},
		{1, tok(api.Name, 1, 2)},
		{2, tok(api.Sign, 3, 5)},
		{3, tok(api.Sign, 3, 5)},
		{4, tok(api.Sign, 4, 5)},
		{5, tok(api.Number, 6, 9)},
		{8, tok(api.Number, 8, 9)},
		{9, tok(api.Word, 17, 19)},
		{10, tok(api.Word, 17, 19)},
		{11, tok(api.Name, 12, 14)},
		{12, tok(api.Name, 12, 14)},
		{13, tok(api.Number, 13, 14)},
		{16, tok(api.Word, 17, 19)},
		{17, tok(api.Word, 17, 19)},
		{18, tok(api.Name, 18, 19)},
		{19, tok(api.End, 19, 19)},
	} {
		wantNext(t, text, c.at, c.want, api.OK)
	}
	wantNext(t, text, 7, none(7), api.ErrToken)   // 00
	wantNext(t, text, 14, none(15), api.ErrToken) // @, as if no # had begun
	wantNext(t, text, 15, none(15), api.ErrToken)
	wantNext(t, "# a # b\nc", 2, tok(api.Name, 2, 3), api.OK)
	wantNext(t, "# a # b\nc", 3, tok(api.Name, 8, 9), api.OK)
	wantNext(t, "#a", 2, tok(api.End, 2, 2), api.OK)
	wantNext(t, "1a", 1, tok(api.Name, 1, 2), api.OK)
	wantNext(t, strings.Repeat("1", 19), 1, tok(api.Number, 1, 19), api.OK)
	wantNext(t, strings.Repeat("a", api.MaxText)+" b", api.MaxText, tok(api.Name, api.MaxText+1, api.MaxText+2), api.OK)
}

// What is no place has no token; it must not panic.
func TestNextOutsideTheText(t *testing.T) {
	for _, text := range []string{"", "a", "a b", " "} {
		for _, at := range []int{math.MinInt, -1, len(text) + 1, math.MaxInt} {
			if x, e := Next(text, at); x != (api.Token{}) || e != api.ErrToken {
				t.Errorf("P6: Next(%q, %d): %v, %d", text, at, x, e)
			}
		}
	}
}

func TestWordsRise(t *testing.T) {
	want := strings.Fields(allWords)
	slices.Sort(want)
	if got := Words(); !slices.Equal(got, want) {
		t.Errorf("P2.1: Words: %q, want %q", got, want)
	}
}

func TestTextOfTokens(t *testing.T) {
	const text = "ab # c\n <=12 while"
	for _, c := range []struct {
		l    []api.Token
		want []string
	}{
		{nil, nil},
		{[]api.Token{}, nil},
		{[]api.Token{tok(api.Name, 0, 2), tok(api.Sign, 8, 10), tok(api.Number, 10, 12), tok(api.Word, 13, 18), tok(api.End, 18, 18)}, []string{"ab", "<=", "12", "while", ""}},
		{[]api.Token{tok(api.Number, 10, 12), tok(api.Name, 0, 2), tok(api.Number, 10, 12)}, []string{"12", "ab", "12"}},
		{[]api.Token{tok(api.End, 0, 0)}, []string{""}},
	} {
		if got := Text(text, c.l); !slices.Equal(got, c.want) {
			t.Errorf("P2.1: Text(%v): %q, want %q", c.l, got, c.want)
		}
	}
	outside := []api.Token{tok(api.Name, -1, 2), tok(api.Name, 2, 1), tok(api.Name, 0, len(text)+1), tok(9, math.MinInt, math.MaxInt), tok(api.Name, 0, 2)}
	if got := Text(text, outside); !slices.Equal(got, []string{"", "", "", "", "ab"}) {
		t.Errorf("P6: Text(%v): %q", outside, got)
	}
}

var (
	blanksRule = regexp.MustCompile(`^(?:[ \t\n\r]|#[^\n]*)*`)
	nameRule   = regexp.MustCompile(`^[a-zA-Z_][a-zA-Z_0-9]*`)
	wordRule   = regexp.MustCompile(`^(?:` + strings.ReplaceAll(allWords, " ", "|") + `)$`)
	digitsRule = regexp.MustCompile(`^[0-9]+[a-zA-Z_]?`)
	numberRule = regexp.MustCompile(`^(?:0|[1-9][0-9]{0,17})$`)
	signRule   = regexp.MustCompile(`^(?:==|!=|<=|>=|&&|\|\||[-+*/%<>!=(){}\[\],;])`)
)

// told: what Next must answer, by rules that say the chapter's words once more.
func told(text string, at int) (api.Token, api.Errno) {
	at += len(blanksRule.FindString(text[at:]))
	rest := text[at:]
	kind, size := api.End, 0
	if s := nameRule.FindString(rest); s != "" {
		kind, size = api.Name, len(s)
		if wordRule.MatchString(s) {
			kind = api.Word
		}
	} else if s := digitsRule.FindString(rest); numberRule.MatchString(s) {
		kind, size = api.Number, len(s)
	} else if s := signRule.FindString(rest); s != "" {
		kind, size = api.Sign, len(s)
	}
	if size == 0 && rest != "" {
		return none(at), api.ErrToken
	}
	return tok(kind, at, at+size), api.OK
}

// manyTexts: all short texts of a few bytes, and longer ones of parts put together by chance, which is the same in every run.
func manyTexts() []string {
	const few = "a0=&# \n@"
	out := []string{""}
	for from, n := 0, 0; n < 4; n++ {
		to := len(out)
		for _, s := range out[from:to] {
			for i := range few {
				out = append(out, s+few[i:i+1])
			}
		}
		from = to
	}
	parts := append(strings.Fields(allWords+" "+allSigns), "a", "_x1", "0", "12", "00", strings.Repeat("7", 18), strings.Repeat("7", 19), " ", " ", " ", "\n", "\n", "\t", "\r", "#", "@", "&", "|", "é", "\xff")
	r := rand.New(rand.NewSource(2))
	for range 3000 {
		s := ""
		for range r.Intn(12) {
			s += parts[r.Intn(len(parts))]
		}
		out = append(out, s)
	}
	return out
}

func TestNextByTheRules(t *testing.T) {
	for _, text := range manyTexts() {
		for at := range len(text) + 1 {
			want, wantError := told(text, at)
			wantNext(t, text, at, want, wantError)
		}
	}
}

func TestAllByTheRules(t *testing.T) {
	for _, text := range manyTexts() {
		var want []api.Token
		x, e := told(text, 0)
		for ; e == api.OK && x.Kind != api.End; x, e = told(text, x.Span.To) {
			want = append(want, x)
		}
		if e != api.OK {
			wantNone(t, text, x.Span.From, api.ErrToken)
		} else {
			wantAll(t, text, want...)
		}
	}
}

// mayTouch: two tokens that stand together, the End aside.
func mayTouch(a, b api.Token) bool { return a.Kind == api.Sign || b.Kind == api.Sign }

func TestSpansRise(t *testing.T) {
	for _, text := range manyTexts() {
		l, _, e := All(text)
		if e != api.OK {
			continue
		}
		behind := 0
		for i, x := range l {
			if (x.Kind == api.End) != (i == len(l)-1) || x.Kind == api.End && x.Span != (api.Span{From: len(text), To: len(text)}) {
				t.Fatalf("P2.2: All(%q): %v: the last, and it alone, is the End", text, l)
			}
			if x.Span.From < behind || x.Span.To < x.Span.From || x.Kind != api.End && x.Span.To == x.Span.From {
				t.Fatalf("P2.2: All(%q): %v: the spans don't rise", text, l)
			}
			if i > 0 && x.Kind != api.End && x.Span.From == behind && !mayTouch(l[i-1], x) {
				t.Fatalf("P2.2: All(%q): %v: two touch", text, l)
			}
			if between := text[behind:x.Span.From]; blanksRule.FindString(between) != between {
				t.Fatalf("P2.2: All(%q): %v: %q are no blanks", text, l, between)
			}
			behind = x.Span.To
		}
		if len(l) == 0 {
			t.Fatalf("P2.2: All(%q): no End", text)
		}
	}
}

func TestAllAnswersNewMemory(t *testing.T) {
	const text = "while x1 <= 10"
	first, _, _ := All(text)
	want := slices.Clone(first)
	second, _, _ := All(text)
	for i := range first[:cap(first)] {
		first[:cap(first)][i] = tok(-7, -7, -7)
	}
	if third, _, _ := All(text); !slices.Equal(second, want) || !slices.Equal(third, want) {
		t.Errorf("P7: All's answers share memory: %v, %v, want %v", second, third, want)
	}
}

func TestWordsAnswersNewMemory(t *testing.T) {
	first, second := Words(), Words()
	want := slices.Clone(first)
	for i := range first[:cap(first)] {
		first[:cap(first)][i] = "x"
	}
	if third := Words(); !slices.Equal(second, want) || !slices.Equal(third, want) {
		t.Errorf("P7: Words' answers share memory: %q, %q, want %q", second, third, want)
	}
	wantAll(t, "break x", tok(api.Word, 0, 5), tok(api.Name, 6, 7))
}

// shares: does a string that has bytes stand within the memory of another one?
func shares(part, whole string) bool {
	if part == "" || whole == "" {
		return false
	}
	from := uintptr(unsafe.Pointer(unsafe.StringData(whole)))
	at := uintptr(unsafe.Pointer(unsafe.StringData(part)))
	return from <= at && at < from+uintptr(len(whole))
}

func TestTextAnswersNewMemory(t *testing.T) {
	text := strings.Repeat("while (x1) ", 3)
	given, _, _ := All(text)
	was := slices.Clone(given)
	for n := range len(given) + 1 {
		first, second := Text(text, given[:n]), Text(text, given[:n])
		want := slices.Clone(second)
		for _, s := range second {
			if shares(s, text) {
				t.Errorf("P7: Text: %q shares memory with the text", s)
			}
		}
		for i := range first[:cap(first)] {
			first[:cap(first)][i] = "y"
		}
		if !slices.Equal(second, want) || !slices.Equal(given, was) {
			t.Fatalf("P7: Text of the first %d: what was handed in, or another answer, was changed", n)
		}
	}
	if whole := Text("main", []api.Token{tok(api.Name, 0, 4)}); !slices.Equal(whole, []string{"main"}) {
		t.Errorf("P2.1: Text of a whole text: %q", whole)
	}
}
