// Package page is layer 1: texts, and places in them: see shared/doc/01-page.md.
package page

import (
	"cmp"
	"iter"
	"slices"
	"strings"

	"rewind/api"
)

// Place: a place's line and column.
func Place(text string, at int) (int, int, api.Errno) {
	if at < 0 {
		return 0, 0, api.ErrRange
	}
	for line, s := range lineSpans(text) {
		// The byte 10 itself still belongs to the line that it ends.
		if at <= s.To {
			return line, at - s.From + 1, api.OK
		}
	}
	return 0, 0, api.ErrRange
}

// At: the place of a line and a column.
func At(text string, line, column int) (int, api.Errno) {
	for n, s := range lineSpans(text) {
		if n == line {
			return inLine(s, column)
		}
	}
	return 0, api.ErrRange
}

// inLine holds the column against the line's size ahead of any sum, so that no column is too great to be added.
func inLine(s api.Span, column int) (int, api.Errno) {
	if column < 1 || column > s.To-s.From+1 {
		return 0, api.ErrRange
	}
	return s.From + column - 1, api.OK
}

// Lines: each line's number, and its bytes.
func Lines(text string) iter.Seq2[int, string] {
	return func(yield func(n int, s string) bool) {
		for n, s := range lineSpans(text) {
			if !yield(n, Cut(text, s)) {
				return
			}
		}
	}
}

// lineSpans: each line's number, and where it stands, without the byte 10 that ends it.
func lineSpans(text string) iter.Seq2[int, api.Span] {
	return func(yield func(n int, s api.Span) bool) {
		line, from := 1, 0
		for at := range len(text) {
			if text[at] != '\n' {
				continue
			}
			if !yield(line, api.Span{From: from, To: at}) {
				return
			}
			line, from = line+1, at+1
		}
		yield(line, api.Span{From: from, To: len(text)})
	}
}

// Good: are two numbers a span?
func Good(s api.Span, size int) bool {
	return 0 <= s.From && s.From <= s.To && s.To <= size
}

// Blank: a text, blanked but for some spans.
func Blank(text string, keep ...api.Span) (string, api.Errno) {
	for _, s := range keep {
		if !Good(s, len(text)) {
			return "", api.ErrRange
		}
	}
	out := blanks(text)
	// Covered first: each byte is then copied once, however much the spans overlap.
	for _, s := range Cover(keep...) {
		copy(out[s.From:s.To], text[s.From:s.To])
	}
	return string(out), api.OK
}

// blanks: a text's bytes, all of them blanked.
func blanks(text string) []byte {
	out := make([]byte, len(text))
	for at := range out {
		out[at] = ' '
		if text[at] == '\n' {
			out[at] = '\n'
		}
	}
	return out
}

// Cover: what is in one of some spans.
func Cover(l ...api.Span) []api.Span {
	var out []api.Span
	for _, s := range byFrom(l) {
		last := len(out) - 1
		if last >= 0 && s.From <= out[last].To {
			out[last].To = max(out[last].To, s.To)
		} else {
			out = append(out, s)
		}
	}
	return out
}

// byFrom: those of some spans that aren't empty, in new memory, sorted by where they begin.
func byFrom(l []api.Span) []api.Span {
	var out []api.Span
	for _, s := range l {
		if s.From < s.To {
			out = append(out, s)
		}
	}
	slices.SortFunc(out, func(a, b api.Span) int { return cmp.Compare(a.From, b.From) })
	return out
}

// Cut: a span's bytes.
func Cut(text string, s api.Span) string {
	if !Good(s, len(text)) {
		return ""
	}
	// A piece of a string shares its memory: an answer is new memory.
	return strings.Clone(text[s.From:s.To])
}
