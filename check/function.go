package check

import (
	"slices"

	"rewind/api"
)

func (c *checker) program() {
	c.functions()
	c.first()
	for n, f := range c.Funcs {
		c.function(n, f)
	}
}

// functions gives each its number: a function may be called ahead of where it stands.
func (c *checker) functions() {
	c.numbers = make(map[string]int)
	for n, f := range c.Funcs {
		if _, ok := c.numbers[f.Name]; ok {
			c.fail(f.Span, api.ErrTwice)
		}
		c.numbers[f.Name] = n
	}
}

func (c *checker) first() {
	if len(c.Funcs) == 0 || c.Funcs[0].Name != "main" {
		c.fail(api.Span{}, api.ErrNone)
	}
	if f := c.Funcs[0]; len(f.Params) > 0 || f.Type != api.Unit {
		c.fail(f.Span, api.ErrType)
	}
}

func (c *checker) function(n int, f api.Func) {
	c.now, c.names = n, nil
	c.parameters(f)
	c.statements(f.Body)
}

// parameters looks for one that is there twice among all of them, ahead of whether they are too many: the chapter names that first.
func (c *checker) parameters(f api.Func) {
	rising := slices.Sorted(slices.Values(f.Params))
	if len(slices.Compact(rising)) < len(f.Params) {
		c.fail(f.Span, api.ErrTwice)
	}
	for _, text := range f.Params {
		c.declare(f.Span, text, api.Int)
	}
}
