package code

import (
	"math"

	"rewind/api"
	"rewind/token"
)

// inOrder: is there a procedure, and do they follow one another, from the row's beginning to its end?
func inOrder(c Code) bool {
	end := 0
	for _, p := range c.Procs {
		if p.From != end || p.To <= end {
			return false
		}
		end = p.To
	}
	return len(c.Procs) > 0 && end == len(c.List)
}

// inParts: is each procedure, and each instruction, right as far as that doesn't hang on heights? (They must be in order.)
func inParts(c Code) bool {
	for _, p := range c.Procs {
		if !p.fits() {
			return false
		}
		for _, x := range c.List[p.From:p.To] {
			if !x.fits(p, len(c.Procs)) {
				return false
			}
		}
	}
	return true
}

func (p Proc) fits() bool {
	slotsFit := p.Params >= 0 && p.Params <= p.Slots && p.Slots <= api.MaxNames
	typeFits := p.Type == api.Int || p.Type == api.Unit
	return slotsFit && typeFits && isName(p.Name)
}

func isName(s string) bool {
	x, e := token.Next(s, 0)
	whole := api.Span{From: 0, To: len(s)}
	return e == api.OK && x.Kind == api.Name && x.Span == whole
}

// fits: may an instruction stand in a procedure, which is one of so many?
func (x Instr) fits(p Proc, procs int) bool {
	if x.Op < Mark || x.Op > Pop {
		return false
	}
	least, greatest := argsOf(shapes[x.Op].arg, p, procs)
	return x.Arg >= least && x.Arg <= greatest && x.moreFits()
}

func (x Instr) moreFits() bool {
	if x.Op == New {
		return x.More >= 1 && x.More <= api.MaxArray
	}
	return x.More == 0
}

// argsOf: the least and the greatest Arg that there may be of a kind.
func argsOf(kind int, p Proc, procs int) (int, int) {
	switch kind {
	case number:
		return math.MinInt, math.MaxInt
	case statement:
		return 0, api.MaxStates - 1
	case slot:
		return 0, p.Slots - 1
	case place:
		return p.From, p.To - 1
	case procedure:
		return 0, procs - 1
	case answers:
		return p.answers(), p.answers()
	case printed:
		return api.Int, api.Bool
	}
	return 0, 0
}

// answers: how many values a procedure answers.
func (p Proc) answers() int {
	if p.Type == api.Int {
		return 1
	}
	return 0
}
