package syntax

import (
	"slices"

	"rewind/api"
	"rewind/arena"
)

// parser: a text's tokens, and what was put of them so far.
type parser struct {
	tokens []api.Token
	texts  []string // each token's bytes
	at     int      // of the token that comes next
	fault  api.Errno
	exprs  arena.Arena[api.Expr]
	stmts  arena.Arena[api.Stmt]
	funcs  arena.Arena[api.Func]
}

// fail ends it all, at the token that comes next: parse catches it.
func (p *parser) fail(e api.Errno) {
	p.fault = e
	panic(e)
}

// is: does one of some signs, or words, come next?
func (p *parser) is(signs ...string) bool { return slices.Contains(signs, p.texts[p.at]) }

func (p *parser) isA(kind int) bool { return p.tokens[p.at].Kind == kind }

// take takes the one of some signs, or words, that must come next.
func (p *parser) take(signs ...string) string {
	if !p.is(signs...) {
		p.fail(api.ErrParse)
	}
	return p.next()
}

// takeA takes a token of a kind, which must come next.
func (p *parser) takeA(kind int) string {
	if !p.isA(kind) {
		p.fail(api.ErrParse)
	}
	return p.next()
}

// next goes behind a token that can stand where it does, and tells its bytes.
func (p *parser) next() string {
	// Too many statements are told here, and not where one is put, since a token that can't stand behind them is told ahead of that (R2).
	if p.stmts.Len() > api.MaxStates {
		p.fail(api.ErrMany)
	}
	p.at++
	return p.texts[p.at-1]
}

// from: where the token that comes next begins.
func (p *parser) from() int { return p.tokens[p.at].Span.From }

// since: from a place to behind the token that was taken last.
func (p *parser) since(from int) api.Span {
	return api.Span{From: from, To: p.tokens[p.at-1].Span.To}
}

// within fails where something of a depth begins that can't be.
func (p *parser) within(depth int) {
	if depth > api.MaxDepth {
		p.fail(api.ErrDeep)
	}
}
