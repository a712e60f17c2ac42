package order

import (
	"strconv"
	"strings"

	"rewind/api"
	"rewind/token"
)

// maxNumber: the greatest number that may be told.
const maxNumber = 999_999

// whole: the Num of a place that has no number.
const whole = -1

// parter answers a closure that takes a line's words, one each time; no bytes, if none is left.
func parter(line string) func() string {
	left := line
	return func() string {
		left = strings.TrimLeft(left, " \t")
		to := strings.IndexAny(left, " \t")
		if to < 0 {
			to = len(left)
		}
		word := left[:to]
		left = left[to:]
		return word
	}
}

// kindOf: the kind whose word it is; 0, if it is none's.
func kindOf(word string) int {
	for i, s := range shapes {
		if s.word == word {
			return i + 1
		}
	}
	return 0
}

// orderOf: the order of a kind with the words that are left, if they are just those that it must have.
func orderOf(kind int, next func() string) (Order, bool) {
	o, ok := Order{Kind: kind}, true
	switch shapes[kind-1].behind {
	case number:
		o.Num, ok = numberOf(next())
	case place:
		o.Name, o.Num, ok = placeOf(next())
	}
	return o, ok && next() == ""
}

// numberOf: the number that a word tells, if it does.
func numberOf(word string) (int, bool) {
	n, err := strconv.Atoi(word)
	// Atoi takes more than digits as they are told: a sign, noughts ahead.
	return n, err == nil && 0 <= n && n <= maxNumber && strconv.Itoa(n) == word
}

// placeOf: the name and the number of a place that a word tells, if it does.
func placeOf(word string) (string, int, bool) {
	name, behind, indexed := strings.Cut(word, "[")
	if !isName(name) {
		return "", 0, false
	}
	// The line is another's memory.
	name = strings.Clone(name)
	if !indexed {
		return name, whole, true
	}
	digits, closed := strings.CutSuffix(behind, "]")
	n, ok := numberOf(digits)
	return name, n, closed && ok
}

func isName(s string) bool {
	x, _ := token.Next(s, 0)
	return x == api.Token{Kind: api.Name, Span: api.Span{To: len(s)}}
}

// line: an order's words with one blank between; of a kind that there is.
func (o Order) line() string {
	s := shapes[o.Kind-1]
	switch s.behind {
	case number:
		return s.word + " " + strconv.Itoa(o.Num)
	case place:
		return s.word + " " + o.place()
	}
	return s.word
}

func (o Order) place() string {
	if o.Num == whole {
		return o.Name
	}
	return o.Name + "[" + strconv.Itoa(o.Num) + "]"
}
