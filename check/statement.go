package check

import "rewind/api"

func (c *checker) statements(list []int) {
	for _, at := range list {
		c.statement(at)
	}
}

// inner goes through a block in a statement: the names of that end with it.
func (c *checker) inner(list []int) {
	ahead := len(c.names)
	c.block++
	c.statements(list)
	c.block--
	c.names = c.names[:ahead]
}

func (c *checker) statement(at int) {
	c.come()
	s := c.Stmts[at]
	c.Func[at] = c.now
	c.given(s)
	c.Put[at] = c.named(s)
	c.fits(at, s)
	c.blocks(s)
}

// given goes through a statement's expressions.
func (c *checker) given(s api.Stmt) {
	switch s.Kind {
	case api.SVar, api.SSet, api.SIf, api.SWhile, api.SPrint:
		c.values(s.A)
	case api.SPut:
		c.values(s.A, s.B)
	case api.SReturn:
		if s.A >= 0 {
			c.values(s.A)
		}
	case api.SCall:
		// It needs no value.
		c.expression(s.A)
	}
}

// named: the slot of a statement's name; -1, if it has none.
func (c *checker) named(s api.Stmt) int {
	switch s.Kind {
	case api.SVar:
		return c.declare(s.Span, s.Name, c.Type[s.A])
	case api.SArray:
		if s.Num < 1 || s.Num > api.MaxArray {
			c.fail(s.Span, api.ErrRange)
		}
		return c.declare(s.Span, s.Name, api.List)
	case api.SSet:
		return c.single(s.Span, s.Name)
	case api.SPut:
		return c.array(s.Span, s.Name)
	}
	return -1
}

// fits fails where a statement's expressions haven't the types that they must have, or where it can't stand itself.
func (c *checker) fits(at int, s api.Stmt) {
	switch s.Kind {
	case api.SSet:
		c.want(s.Span, c.slotType(c.Put[at]), s.A)
	case api.SPut:
		c.want(s.Span, api.Int, s.A, s.B)
	case api.SIf, api.SWhile:
		c.want(s.Span, api.Bool, s.A)
	case api.SBreak, api.SContinue:
		if c.loops == 0 {
			c.fail(s.Span, api.ErrJump)
		}
	case api.SReturn:
		c.answer(s)
	}
}

// answer fails where a return has a value and must have none, or has none and must have one, or has another one.
func (c *checker) answer(s api.Stmt) {
	isInt := c.Funcs[c.now].Type == api.Int
	if isInt != (s.A >= 0) {
		c.fail(s.Span, api.ErrType)
	}
	if isInt {
		c.want(s.Span, api.Int, s.A)
	}
}

func (c *checker) blocks(s api.Stmt) {
	switch s.Kind {
	case api.SIf:
		c.inner(s.Then)
		c.inner(s.Else)
	case api.SWhile:
		c.loops++
		c.inner(s.Then)
		c.loops--
	}
}
