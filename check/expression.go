package check

import "rewind/api"

// values goes through expressions that must have values, from the left. That each has one is said only behind all of them: it is said of what they are parts of.
func (c *checker) values(list ...int) {
	for _, at := range list {
		c.expression(at)
	}
	for _, at := range list {
		if c.Type[at] == api.Unit {
			c.fail(c.Exprs[at].Span, api.ErrType)
		}
	}
}

func (c *checker) expression(at int) {
	c.come()
	x := c.Exprs[at]
	c.values(parts(x)...)
	c.Slot[at] = c.means(x)
	c.Type[at] = c.kind(at, x)
}

func parts(x api.Expr) []int {
	switch x.Kind {
	case api.EIndex, api.EUnary:
		return []int{x.A}
	case api.EPair:
		return []int{x.A, x.B}
	case api.ECall:
		return x.List
	}
	return nil
}

// means: the slot, or the function, of an expression's name; -1, if it has none.
func (c *checker) means(x api.Expr) int {
	switch x.Kind {
	case api.EName:
		return c.single(x.Span, x.Name)
	case api.EIndex:
		return c.array(x.Span, x.Name)
	case api.ECall:
		n, ok := c.numbers[x.Name]
		if !ok {
			c.fail(x.Span, api.ErrName)
		}
		return n
	}
	return -1
}

// kind: the type of an expression, whose parts must fit.
func (c *checker) kind(at int, x api.Expr) int {
	switch x.Kind {
	case api.ETrue, api.EFalse:
		return api.Bool
	case api.EName:
		return c.slotType(c.Slot[at])
	case api.ECall:
		return c.answered(x, c.Funcs[c.Slot[at]])
	case api.EUnary:
		return c.unary(x)
	case api.EPair:
		return c.pair(x)
	case api.EIndex:
		c.want(x.Span, api.Int, x.A)
	}
	return api.Int
}

// answered: the type of a call of a function.
func (c *checker) answered(x api.Expr, f api.Func) int {
	if len(x.List) != len(f.Params) {
		c.fail(x.Span, api.ErrType)
	}
	c.want(x.Span, api.Int, x.List...)
	return f.Type
}

func (c *checker) unary(x api.Expr) int {
	kind := api.Int
	if x.Op == "!" {
		kind = api.Bool
	}
	c.want(x.Span, kind, x.A)
	return kind
}

func (c *checker) pair(x api.Expr) int {
	switch x.Op {
	case "+", "-", "*", "/", "%":
		c.want(x.Span, api.Int, x.A, x.B)
		return api.Int
	case "<", "<=", ">", ">=":
		c.want(x.Span, api.Int, x.A, x.B)
	case "==", "!=":
		c.want(x.Span, c.Type[x.A], x.B)
	default:
		c.want(x.Span, api.Bool, x.A, x.B)
	}
	return api.Bool
}
