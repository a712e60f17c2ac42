package order_test

import (
	"slices"
	"strings"
	"testing"

	"rewind/api"
	"rewind/order"
)

// What a line may have behind its first word.
const (
	bare   = "step back next prev finish start run rerun reached slice where list quit"
	counts = "go break clear"
	places = "watch drop print why"
)

const allWords = "step back next prev finish start run rerun go break clear watch drop print why reached slice where list quit"

// kindOf: the place of a word in the chapter's table.
func kindOf(word string) int { return slices.Index(strings.Fields(allWords), word) + 1 }

// wantOrder: a line is parsed as an order that is good, and whose own line has just its words.
func wantOrder(t *testing.T, line string, want order.Order) {
	t.Helper()
	got, e := order.Parse(line)
	if got != want || e != api.OK {
		t.Errorf("P18.1: Parse(%q): %v, %d, want %v", line, got, e, want)
	}
	if !want.Good() {
		t.Errorf("P18.1: %v isn't good", want)
	}
	blanks := func(r rune) bool { return r == ' ' || r == '\t' }
	text := want.Text()
	if text != strings.Join(strings.FieldsFunc(line, blanks), " ") {
		t.Errorf("P18.1: Text of %q: %q", line, text)
	}
	if again, e := order.Parse(text); again != want || e != api.OK {
		t.Errorf("P18.2: Parse(%q): %v, %d, want %v", text, again, e, want)
	}
}

func wantFault(t *testing.T, line string, want api.Errno) {
	t.Helper()
	if o, e := order.Parse(line); o != (order.Order{}) || e != want {
		t.Errorf("P18.1: Parse(%q): %v, %d, want none, %d", line, o, e, want)
	}
}

func wantBad(t *testing.T, o order.Order) {
	t.Helper()
	if o.Good() || o.Text() != "" {
		t.Errorf("P18.1: %v: %v, %q, want that it isn't good, and has no text", o, o.Good(), o.Text())
	}
}

func TestWords(t *testing.T) {
	got := order.Words()
	if !slices.Equal(got, strings.Fields(allWords)) {
		t.Errorf("P18.1: Words: %v", got)
	}
	clear(got)
	if !slices.Equal(order.Words(), strings.Fields(allWords)) {
		t.Error("P7: Words shares memory with what it answered")
	}
}

func TestWordsAlone(t *testing.T) {
	for _, w := range strings.Fields(bare) {
		o := order.Order{Kind: kindOf(w)}
		wantOrder(t, w, o)
		wantOrder(t, " \t "+w+"\t ", o)
		for _, behind := range []string{"1", "x", w, "#"} {
			wantFault(t, w+" "+behind, api.ErrParse)
		}
		for _, bad := range []order.Order{{Kind: o.Kind, Num: 1}, {Kind: o.Kind, Num: -1}, {Kind: o.Kind, Name: "x"}, {Kind: o.Kind, Name: " "}} {
			wantBad(t, bad)
		}
	}
}

func TestNumbers(t *testing.T) {
	for _, w := range strings.Fields(counts) {
		for s, n := range map[string]int{"0": 0, "1": 1, "9": 9, "10": 10, "100": 100, "999998": 999998, "999999": 999999} {
			o := order.Order{Kind: kindOf(w), Num: n}
			wantOrder(t, w+" "+s, o)
			wantOrder(t, "\t"+w+"\t \t"+s+" ", o)
			wantBad(t, order.Order{Kind: o.Kind, Num: n, Name: "x"})
		}
		for _, s := range []string{"", "00", "01", "000001", "-0", "-1", "+1", "1.", "1e3", "0x1", "1_0", "x", "x[1]", "[1]", "1 2", "1 x", "1000000", "9999999", "9223372036854775808", "18446744073709551617", "1\n", "1#", "\u0661"} {
			wantFault(t, w+" "+s, api.ErrParse)
		}
		for _, n := range []int{-1, -2, 1000000, -1 << 63, 1<<63 - 1} {
			wantBad(t, order.Order{Kind: kindOf(w), Num: n})
		}
	}
}

func TestPlaces(t *testing.T) {
	for _, w := range strings.Fields(places) {
		for _, name := range []string{"a", "z", "A", "Z", "_", "x1", "_0", "__9", "step", "go", "print1", "ifx", "If", "bool"} {
			wantOrder(t, w+" "+name, order.Order{Kind: kindOf(w), Name: name, Num: -1})
			wantOrder(t, " "+w+"\t"+name+"\t", order.Order{Kind: kindOf(w), Name: name, Num: -1})
			wantOrder(t, w+" "+name+"[0]", order.Order{Kind: kindOf(w), Name: name})
			wantOrder(t, w+" "+name+"[64]", order.Order{Kind: kindOf(w), Name: name, Num: 64})
			wantOrder(t, w+" "+name+"[999999]", order.Order{Kind: kindOf(w), Name: name, Num: 999999})
		}
	}
}

func TestWordsThatAreNoPlaces(t *testing.T) {
	wrong := []string{
		"", "1", "1a", "a-", "a.b", "-a", "a#", "#a", "a\n", "\na", "a\r", "\u00e9", "a\u00e9", "a\x00", "&&",
		"[", "[1]", "]", "a[", "a]", "a[]", "a[[1]]", "a[1", "a1]", "a[x]", "a[-1]", "a[+1]", "a[01]", "a[1000000]", "a[99999999999999999999]",
		"a[1]x", "a[1]]", "a[1][2]", "a[1", "a [1]", "a[ 1]", "a[1 ]", "a\t[1]", "a b", "a 1", "a[1] b", "a[1]#", "a(1)", "1[1]", "a#[1]",
		"func", "int", "var", "if", "else", "while", "break", "continue", "return", "print", "read", "true", "false", "if[1]", "true[0]",
	}
	for _, w := range strings.Fields(places) {
		for _, s := range wrong {
			wantFault(t, w+" "+s, api.ErrParse)
		}
		for _, name := range wrong {
			wantBad(t, order.Order{Kind: kindOf(w), Name: name, Num: -1})
			wantBad(t, order.Order{Kind: kindOf(w), Name: name, Num: 1})
		}
		for _, n := range []int{-2, -1 << 63, 1000000, 1<<63 - 1} {
			wantBad(t, order.Order{Kind: kindOf(w), Name: "a", Num: n})
		}
		wantBad(t, order.Order{Kind: kindOf(w), Name: "a[1]", Num: -1})
	}
}

func TestLinesOfNoOrder(t *testing.T) {
	for _, s := range []string{"", " ", "\t", " \t ", "jump", "Step", "STEP", "ste", "stepx", "step1", "step\n", "\nstep", "step\r", "step\vx", "step\u00a0x", "step,", "#step", "1", "x", "go5", "print[1]", "x step", "int 1", "-", "\x00"} {
		wantFault(t, s, api.ErrOrder)
	}
}

func TestKindsThatThereAreNot(t *testing.T) {
	for _, k := range []int{0, -1, 21, 22, 1 << 40, -1 << 63, 1<<63 - 1} {
		wantBad(t, order.Order{Kind: k})
		wantBad(t, order.Order{Kind: k, Num: 1})
		wantBad(t, order.Order{Kind: k, Name: "a", Num: -1})
	}
}

func TestLongLines(t *testing.T) {
	wantOrder(t, strings.Repeat(" ", 196)+"step", order.Order{Kind: 1})
	wantOrder(t, "go"+strings.Repeat("\t", 197)+"7", order.Order{Kind: 9, Num: 7})
	wantFault(t, strings.Repeat(" ", 200), api.ErrOrder)
	wantFault(t, strings.Repeat("x", 200), api.ErrOrder)
	for _, s := range []string{strings.Repeat(" ", 201), strings.Repeat(" ", 197) + "step", "step" + strings.Repeat(" ", 197), strings.Repeat("x", 201), "go x" + strings.Repeat(" ", 200), "quit" + strings.Repeat("\x00", 1<<16)} {
		wantFault(t, s, api.ErrLong)
	}
}

// TestLongestNames: an order is good as long as its shortest line has 200 bytes.
func TestLongestNames(t *testing.T) {
	for _, w := range strings.Fields(places) {
		for _, tail := range []string{"", "[7]", "[999999]"} {
			name := strings.Repeat("n", 200-len(w)-1-len(tail))
			o, e := order.Parse(w + " " + name + tail)
			if o.Name != name || e != api.OK {
				t.Errorf("P18.1: Parse of %s, a name of %d bytes, and %q: %d", w, len(name), tail, e)
			}
			wantOrder(t, w+" "+name+tail, o)
			wantFault(t, w+" n"+name+tail, api.ErrLong)
			o.Name += "n"
			wantBad(t, o)
		}
		wantBad(t, order.Order{Kind: kindOf(w), Name: strings.Repeat("n", 1<<20), Num: -1})
	}
}

func TestExample(t *testing.T) {
	wantOrder(t, "print a[3]", order.Order{Kind: 14, Name: "a", Num: 3})
}
