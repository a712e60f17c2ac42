package order_test

import (
	"math/rand"
	"regexp"
	"strconv"
	"strings"
	"testing"
	"unsafe"

	"rewind/api"
	"rewind/order"
)

// The chapter's words as patterns: behind a first word there is nothing, a number, or a place.
var (
	linePattern = regexp.MustCompile(`^[ \t]*([^ \t]+)(?s:(.*))$`)
	restPattern = map[string]*regexp.Regexp{
		bare:   regexp.MustCompile(`^[ \t]*$`),
		counts: regexp.MustCompile(`^[ \t]+()(0|[1-9][0-9]{0,5})[ \t]*$`),
		places: regexp.MustCompile(`^[ \t]+([a-zA-Z_][a-zA-Z_0-9]*)(?:\[(0|[1-9][0-9]{0,5})\])?[ \t]*$`),
	}
	wordPattern = regexp.MustCompile(`^(func|int|var|if|else|while|break|continue|return|print|read|true|false)$`)
)

// oracle: a line's order, by the patterns.
func oracle(line string) (order.Order, api.Errno) {
	if len(line) > 200 {
		return order.Order{}, api.ErrLong
	}
	parts := linePattern.FindStringSubmatch(line)
	if parts == nil || kindOf(parts[1]) == 0 {
		return order.Order{}, api.ErrOrder
	}
	o := order.Order{Kind: kindOf(parts[1])}
	for words, rest := range restPattern {
		if !strings.Contains(" "+words+" ", " "+parts[1]+" ") {
			continue
		}
		found := rest.FindStringSubmatch(parts[2])
		if found == nil || words == places && wordPattern.MatchString(found[1]) {
			return order.Order{}, api.ErrParse
		}
		if words != bare {
			o.Name, o.Num = found[1], -1
		}
		if words != bare && found[2] != "" {
			o.Num, _ = strconv.Atoi(found[2])
		}
	}
	return o, api.OK
}

func wantAsOracle(t *testing.T, line string) api.Errno {
	t.Helper()
	want, fault := oracle(line)
	got, e := order.Parse(line)
	if got != want || e != fault {
		t.Fatalf("P18.1: Parse(%q): %v, %d, want %v, %d", line, got, e, want, fault)
	}
	if e != api.OK {
		return e
	}
	if again, e := order.Parse(got.Text()); !got.Good() || again != got || e != api.OK {
		t.Fatalf("P18.2: %q: its text %q is parsed as %v, %d", line, got.Text(), again, e)
	}
	return e
}

func pick(r *rand.Rand, of ...string) string { return of[r.Intn(len(of))] }

func pieceByChance(r *rand.Rand) string {
	switch r.Intn(8) {
	case 0:
		return pick(r, " ", "\t", "  ", "\n", "\r", "#", "\x00", "\xff", "\u2003")
	case 1:
		return strconv.Itoa(r.Intn(1200))
	case 2:
		return pick(r, "0", "00", "999999", "1000000", "-1", "+", "99999999999999999999")
	case 3:
		return pick(r, "[", "]", "[1]", "[]", "[0", "9]")
	case 4:
		return pick(r, "a", "_", "Z9", "x", "if", "read", "true", "e")
	}
	return pick(r, strings.Fields(allWords)...)
}

// lineByChance: most often nearly an order.
func lineByChance(r *rand.Rand) string {
	blank := func() string { return pick(r, " ", " ", " ", "\t", "  ", "") }
	line := pick(r, "", "", " ") + pick(r, strings.Fields(allWords)...) + blank()
	switch r.Intn(4) {
	case 0:
		line += strconv.Itoa(r.Intn(1100000)) + pick(r, "", "", blank())
	case 1:
		line += pick(r, "a", "b1", "_", "if", "go") + pick(r, "", "["+strconv.Itoa(r.Intn(100))+"]") + pick(r, "", "", blank())
	}
	for range r.Intn(3) {
		at := r.Intn(len(line) + 1)
		line = line[:at] + pieceByChance(r) + line[at:]
	}
	if r.Intn(10) == 0 {
		line += strings.Repeat(" ", max(0, 198+r.Intn(5)-len(line)))
	}
	return line
}

func TestLinesByChance(t *testing.T) {
	r := rand.New(rand.NewSource(18))
	var count [20]int
	for range 60_000 {
		count[wantAsOracle(t, lineByChance(r))]++
	}
	for _, e := range []api.Errno{api.OK, api.ErrOrder, api.ErrParse, api.ErrLong} {
		if count[e] < 100 {
			t.Errorf("only %d lines of the answer %d", count[e], e)
		}
	}
}

// goodByWords: whether any line is the order's, by what the chapter says of each kind.
func goodByWords(o order.Order) bool {
	if o.Kind < 1 || o.Kind > 20 {
		return false
	}
	line := strings.Fields(allWords)[o.Kind-1]
	if o.Name == "" && strings.Contains(" "+bare+" ", " "+line+" ") {
		return o.Num == 0
	}
	line += " " + o.Name
	if o.Name == "" || o.Num != -1 {
		number := strconv.Itoa(o.Num)
		if o.Name != "" {
			number = "[" + number + "]"
		}
		line += number
	}
	found, e := oracle(line)
	return e == api.OK && found == o
}

func TestOrdersByChance(t *testing.T) {
	r := rand.New(rand.NewSource(81))
	good := 0
	for range 60_000 {
		o := order.Order{Kind: r.Intn(23) - 1}
		if r.Intn(2) == 0 {
			o.Num = []int{-2, -1, -1, 0, 1, 64, 999999, 1000000}[r.Intn(8)]
		}
		for range r.Intn(3) {
			o.Name += pick(r, "a", "b_", "Z9", "9", "if", " ", "[", "]", "[1]", "#", strings.Repeat("n", 190))
		}
		if o.Good() != goodByWords(o) {
			t.Fatalf("P18.1: Good of %v: %v", o, o.Good())
		}
		if again, e := order.Parse(o.Text()); o.Good() && (again != o || e != api.OK) {
			t.Fatalf("P18.2: %q is parsed as %v, %d, want %v", o.Text(), again, e, o)
		}
		if o.Good() {
			good++
		}
		if !o.Good() && o.Text() != "" {
			t.Fatalf("P18.1: %v has the text %q", o, o.Text())
		}
	}
	if good < 1000 {
		t.Errorf("only %d good orders", good)
	}
}

func TestNamesAreNewMemory(t *testing.T) {
	line := string([]byte("print name[3]"))
	o, _ := order.Parse(line)
	from := uintptr(unsafe.Pointer(unsafe.StringData(line)))
	at := uintptr(unsafe.Pointer(unsafe.StringData(o.Name)))
	if from <= at && at < from+uintptr(len(line)) {
		t.Error("P7: the order keeps the line's memory")
	}
}
