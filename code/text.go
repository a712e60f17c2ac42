package code

import (
	"strconv"
	"strings"
)

// A procedure's line has this word, a name, and three numbers.
const (
	procWord  = "proc"
	procParts = 5
)

func procedureLine(p Proc) string {
	return lineOf([]string{procWord, p.Name}, p.Params, p.Slots, p.Type)
}

func instructionLine(x Instr) string {
	all := []int{x.Arg, x.More}
	return lineOf([]string{shapes[x.Op].word}, all[:many(x.Op)]...)
}

func lineOf(parts []string, numbers ...int) string {
	for _, n := range numbers {
		parts = append(parts, strconv.Itoa(n))
	}
	return strings.Join(parts, " ") + "\n"
}

// take puts what a line tells behind the code; it tells whether the line may stand there.
func (c *Code) take(parts []string) bool {
	if parts[0] == procWord {
		return c.takeProcedure(parts)
	}
	return len(c.Procs) > 0 && c.takeInstruction(parts)
}

func (c *Code) takeProcedure(parts []string) bool {
	if len(parts) != procParts || !isName(parts[1]) {
		return false
	}
	n, ok := numbers(parts[2:])
	if !ok {
		return false
	}
	at := len(c.List)
	// A piece of a text would keep the whole text.
	name := strings.Clone(parts[1])
	c.Procs = append(c.Procs, Proc{Name: name, From: at, To: at, Params: n[0], Slots: n[1], Type: n[2]})
	return true
}

func (c *Code) takeInstruction(parts []string) bool {
	op := opOf(parts[0])
	n, ok := numbers(parts[1:])
	if op == 0 || !ok || len(n) != many(op) {
		return false
	}
	n = append(n, 0, 0) // what a line doesn't tell is 0
	c.List = append(c.List, Instr{Op: op, Arg: n[0], More: n[1]})
	c.Procs[len(c.Procs)-1].To = len(c.List)
	return true
}

// numbers: the ints that parts tell; and whether each part is just as an int is told.
func numbers(parts []string) ([]int, bool) {
	var out []int
	for _, s := range parts {
		n, err := strconv.Atoi(s)
		if err != nil || strconv.Itoa(n) != s {
			return nil, false
		}
		out = append(out, n)
	}
	return out, true
}
