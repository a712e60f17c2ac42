package syntax

import (
	"strconv"

	"rewind/api"
)

func (p *parser) block(depth int) []int {
	p.within(depth)
	var out []int
	p.take("{")
	for !p.is("}") {
		out = append(out, p.statement(depth))
	}
	p.take("}")
	return out
}

// statement puts the one that comes next; depth is its block's.
func (p *parser) statement(depth int) int {
	from := p.from()
	s := p.fields(depth)
	s.Span = p.since(from)
	return p.stmts.Put(s)
}

// fields: a statement's, but for its span.
func (p *parser) fields(depth int) api.Stmt {
	switch {
	case p.is("if"):
		return p.choice(depth)
	case p.is("while"):
		return p.loop(depth)
	}
	s := p.simple(depth)
	p.take(";")
	return s
}

func (p *parser) choice(depth int) api.Stmt {
	p.take("if")
	s := api.Stmt{Kind: api.SIf, A: p.expression(depth)}
	s.Then = p.block(depth + 1)
	if p.is("else") {
		p.take("else")
		s.Else = p.otherwise(depth + 1)
	}
	return s
}

// otherwise: what stands behind else.
func (p *parser) otherwise(depth int) []int {
	if p.is("if") {
		// It isn't too deep: Then, which has the same depth, stands ahead of it.
		return []int{p.statement(depth)}
	}
	return p.block(depth)
}

func (p *parser) loop(depth int) api.Stmt {
	p.take("while")
	s := api.Stmt{Kind: api.SWhile, A: p.expression(depth)}
	s.Then = p.block(depth + 1)
	return s
}

// simple: a statement without blocks, up to its semicolon.
func (p *parser) simple(depth int) api.Stmt {
	switch {
	case p.isA(api.Name):
		return p.named(depth)
	case p.is("var"):
		return p.variable(depth)
	case p.is("return"):
		return p.answer(depth)
	case p.is("print"):
		p.take("print")
		return api.Stmt{Kind: api.SPrint, A: p.expression(depth)}
	}
	if p.take("break", "continue") == "break" {
		return api.Stmt{Kind: api.SBreak}
	}
	return api.Stmt{Kind: api.SContinue}
}

// named: a statement that begins with a name.
func (p *parser) named(depth int) api.Stmt {
	from, name := p.from(), p.takeA(api.Name)
	switch {
	case p.is("("):
		return api.Stmt{Kind: api.SCall, A: p.call(from, name, depth)}
	case p.is("["):
		// The place is one of the statement's expressions, not an index's: it is no deeper than they are.
		s := api.Stmt{Kind: api.SPut, Name: name, A: p.index(depth)}
		p.take("=")
		s.B = p.expression(depth)
		return s
	}
	p.take("=")
	return api.Stmt{Kind: api.SSet, Name: name, A: p.expression(depth)}
}

func (p *parser) variable(depth int) api.Stmt {
	p.take("var")
	name := p.takeA(api.Name)
	if p.take("=", "[") == "=" {
		return api.Stmt{Kind: api.SVar, Name: name, A: p.expression(depth)}
	}
	s := api.Stmt{Kind: api.SArray, Name: name, Num: p.number()}
	p.take("]")
	return s
}

func (p *parser) answer(depth int) api.Stmt {
	p.take("return")
	if p.is(";") {
		return api.Stmt{Kind: api.SReturn, A: -1}
	}
	return api.Stmt{Kind: api.SReturn, A: p.expression(depth)}
}

func (p *parser) number() int {
	// A number has 18 digits at most: it is an int.
	n, _ := strconv.Atoi(p.takeA(api.Number))
	return n
}
