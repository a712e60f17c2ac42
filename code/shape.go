package code

// What an instruction's Arg is.
const (
	nothing = iota
	number
	statement
	slot
	place
	procedure
	answers
	printed
)

// shape: an Op's word in texts, what its Arg is, how many it takes from a stack, and how many it leaves there for the one behind it.
type shape struct {
	word               string
	arg, takes, leaves int
}

// shapes stand by their Ops. What a call and a return take, and what a call leaves, hangs on their Args: it stands here as if it were none.
var shapes = [...]shape{
	Mark:    {"mark", statement, 0, 0},
	Const:   {"const", number, 0, 1},
	Load:    {"load", slot, 0, 1},
	Store:   {"store", slot, 1, 0},
	LoadAt:  {"loadat", slot, 1, 1},
	StoreAt: {"storeat", slot, 2, 0},
	New:     {"new", slot, 0, 0},
	Read:    {"read", nothing, 0, 1},
	Neg:     {"neg", nothing, 1, 1},
	Not:     {"not", nothing, 1, 1},
	Add:     {"add", nothing, 2, 1},
	Sub:     {"sub", nothing, 2, 1},
	Mul:     {"mul", nothing, 2, 1},
	Div:     {"div", nothing, 2, 1},
	Mod:     {"mod", nothing, 2, 1},
	Lt:      {"lt", nothing, 2, 1},
	Le:      {"le", nothing, 2, 1},
	Gt:      {"gt", nothing, 2, 1},
	Ge:      {"ge", nothing, 2, 1},
	Eq:      {"eq", nothing, 2, 1},
	Ne:      {"ne", nothing, 2, 1},
	Jump:    {"jump", place, 0, 0},
	JumpNot: {"jumpnot", place, 1, 0},
	And:     {"and", place, 1, 0},
	Or:      {"or", place, 1, 0},
	Call:    {"call", procedure, 0, 0},
	Return:  {"return", answers, 0, 0},
	Print1:  {"print", printed, 1, 0},
	Pop:     {"pop", nothing, 1, 0},
}

// opOf: the Op that a word stands for; 0, if there is none.
func opOf(word string) int {
	for op := Mark; op <= Pop; op++ {
		if shapes[op].word == word {
			return op
		}
	}
	return 0
}

// many: how many numbers stand behind an Op's word in texts.
func many(op int) int {
	switch {
	case op == New:
		return 2
	case shapes[op].arg != nothing:
		return 1
	}
	return 0
}
