package check

import (
	"slices"

	"rewind/api"
)

// checker: a program, and what is known of it so far.
type checker struct {
	api.Tree
	Info
	numbers map[string]int // of functions, by their names
	names   []name         // those that stand where it is, the innermost last
	now     int            // the function that it is in
	block   int            // how many blocks of that function's it is in, beside the function's own
	loops   int            // how many whiles it is in
	left    int            // how many statements and expressions it hasn't come to
	place   int
	fault   api.Errno
}

// name: what a name stands for, from behind a statement of a block on.
type name struct {
	text        string
	slot, block int
}

// roomFor: memory for what there is to know of a program.
func roomFor(t api.Tree) Info {
	return Info{
		Type:  make([]int, len(t.Exprs)),
		Slot:  make([]int, len(t.Exprs)),
		Put:   make([]int, len(t.Stmts)),
		Func:  make([]int, len(t.Stmts)),
		Slots: make([][]int, len(t.Funcs)),
	}
}

// fail ends it all, at what has a span: check catches it.
func (c *checker) fail(s api.Span, e api.Errno) {
	c.place, c.fault = s.From, e
	panic(e)
}

// come counts what it comes to, so that a tree that leads back to where it was ends, too.
func (c *checker) come() {
	if c.left == 0 {
		c.fail(api.Span{}, api.ErrNone)
	}
	c.left--
}

// slot: what a name stands for; -1, if it means nothing here.
func (c *checker) slot(text string) int {
	for _, n := range slices.Backward(c.names) {
		if n.text == text {
			return n.slot
		}
	}
	return -1
}

// slotType: the type of a slot of the function that it is in.
func (c *checker) slotType(slot int) int { return c.Slots[c.now][slot] }

// single: the slot of a name that must be a variable's or a parameter's; s is what has the name.
func (c *checker) single(s api.Span, text string) int {
	slot := c.slot(text)
	if slot < 0 || c.slotType(slot) == api.List {
		c.fail(s, api.ErrName)
	}
	return slot
}

// array: the slot of a name that must be an array's.
func (c *checker) array(s api.Span, text string) int {
	slot := c.slot(text)
	if slot < 0 || c.slotType(slot) != api.List {
		c.fail(s, api.ErrName)
	}
	return slot
}

// declare: the slot of a name that stands from here on.
func (c *checker) declare(s api.Span, text string, kind int) int {
	if slices.ContainsFunc(c.names, func(n name) bool { return n.text == text && n.block == c.block }) {
		c.fail(s, api.ErrTwice)
	}
	slot := len(c.Slots[c.now])
	if slot == api.MaxNames {
		c.fail(s, api.ErrMany)
	}
	c.names = append(c.names, name{text, slot, c.block})
	c.Slots[c.now] = append(c.Slots[c.now], kind)
	return slot
}

// want fails at s, if one of some expressions hasn't a type.
func (c *checker) want(s api.Span, kind int, parts ...int) {
	for _, at := range parts {
		if c.Type[at] != kind {
			c.fail(s, api.ErrType)
		}
	}
}
