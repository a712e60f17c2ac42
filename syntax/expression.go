package syntax

import "rewind/api"

// expression puts the one that comes next, and all its parts ahead of it.
func (p *parser) expression(depth int) int { return p.row(p.conjunction, depth, "||") }

func (p *parser) conjunction(depth int) int { return p.row(p.comparison, depth, "&&") }

func (p *parser) comparison(depth int) int {
	from := p.from()
	a := p.sum(depth)
	if p.is("==", "!=", "<", "<=", ">", ">=") {
		return p.pair(from, a, p.sum, depth)
	}
	return a
}

func (p *parser) sum(depth int) int { return p.row(p.product, depth, "+", "-") }

func (p *parser) product(depth int) int { return p.row(p.operand, depth, "*", "/", "%") }

// row: parts with some signs between them, from the left.
func (p *parser) row(part func(depth int) int, depth int, signs ...string) int {
	from := p.from()
	a := part(depth)
	for p.is(signs...) {
		a = p.pair(from, a, part, depth)
	}
	return a
}

// pair: a, which begins at from, brackets and all, the sign that comes next, and the part behind it.
func (p *parser) pair(from, a int, part func(depth int) int, depth int) int {
	op := p.next()
	b := part(depth)
	return p.put(from, api.Expr{Kind: api.EPair, A: a, Op: op, B: b})
}

// operand: what the parts of pairs are made of. Each expression begins with one: too great a depth is seen here.
func (p *parser) operand(depth int) int {
	p.within(depth)
	from := p.from()
	switch {
	case p.is("-", "!"):
		op := p.next()
		return p.put(from, api.Expr{Kind: api.EUnary, Op: op, A: p.operand(depth + 1)})
	case p.is("("):
		p.take("(")
		at := p.expression(depth + 1)
		p.take(")")
		return at
	case p.isA(api.Name):
		return p.reference(depth)
	case p.isA(api.Number):
		return p.put(from, api.Expr{Kind: api.ENum, Num: p.number()})
	}
	return p.word()
}

// reference: an expression that begins with a name.
func (p *parser) reference(depth int) int {
	from, name := p.from(), p.takeA(api.Name)
	switch {
	case p.is("("):
		return p.call(from, name, depth)
	case p.is("["):
		return p.put(from, api.Expr{Kind: api.EIndex, Name: name, A: p.index(depth + 1)})
	}
	return p.put(from, api.Expr{Kind: api.EName, Name: name})
}

// call: a call, whose name was taken.
func (p *parser) call(from int, name string, depth int) int {
	l := list(p, func() int { return p.expression(depth + 1) })
	return p.put(from, api.Expr{Kind: api.ECall, Name: name, List: l})
}

// index: the expression between [ and ].
func (p *parser) index(depth int) int {
	p.take("[")
	at := p.expression(depth)
	p.take("]")
	return at
}

func (p *parser) word() int {
	from := p.from()
	switch p.take("true", "false", "read") {
	case "true":
		return p.put(from, api.Expr{Kind: api.ETrue})
	case "false":
		return p.put(from, api.Expr{Kind: api.EFalse})
	}
	return p.put(from, api.Expr{Kind: api.ERead})
}

// put puts an expression that ends with the token that was taken last.
func (p *parser) put(from int, x api.Expr) int {
	x.Span = p.since(from)
	return p.exprs.Put(x)
}
