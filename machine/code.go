package machine

import (
	"slices"
	"strconv"

	"sheets/api"
	"sheets/cells"
	"sheets/grammar"
	"sheets/tokens"
	"sheets/values"
)

// operation tells what an instruction does. The values of parts are put down one on another; what takes values takes
// those that were put down last.
type operation int

const (
	put       operation = iota // puts the instruction's value down
	read                       // reads the instruction's cell, and puts down what it is worth
	readApart                  // does so too, but puts None down for a cell without a formula
	readNamed                  // takes a name, and reads that cell
	negate                     // takes one value, as the next ones take two, and puts down what comes of them
	add
	subtract
	multiply
	divide
	join
	equal
	less
	tally   // takes a value, and adds 1 to the one below if it is an Int
	choose  // takes a Bool, and goes to another instruction if it is false
	jump    // goes to another instruction
	guard   // from here on an Error does not end the formula, but goes to another instruction with true
	unguard // takes the value that was guarded, and puts down false
)

type instruction struct {
	operation operation
	value     api.Value // of put
	cell      int       // of read and readApart
	to        int       // of choose, jump and guard: where to go
}

// compiler goes once over the tokens of a formula. That they are one was found out when the cell was given it.
type compiler struct {
	list []tokens.Token
	code []instruction
}

func compile(formula string) []instruction {
	list, _, _ := grammar.ReadAll(formula)
	c := compiler{list: list}
	c.formula()
	return c.code
}

func (c *compiler) formula() {
	c.row(c.sum, tokens.Equal, tokens.Less)
}

func (c *compiler) sum() {
	c.row(c.product, tokens.Plus, tokens.Minus, tokens.Join)
}

func (c *compiler) product() {
	c.row(c.atom, tokens.Times, tokens.Divide)
}

// row compiles parts with signs between them, taken from the left.
func (c *compiler) row(part func(), signs ...tokens.Kind) {
	part()
	for slices.Contains(signs, c.kind()) {
		sign := c.take()
		part()
		c.emit(instruction{operation: ofSign(sign.Kind)})
	}
}

func ofSign(sign tokens.Kind) operation {
	switch sign {
	case tokens.Plus:
		return add
	case tokens.Minus:
		return subtract
	case tokens.Times:
		return multiply
	case tokens.Divide:
		return divide
	case tokens.Join:
		return join
	case tokens.Equal:
		return equal
	}
	return less
}

func (c *compiler) atom() {
	token := c.take()
	switch token.Kind {
	case tokens.Negate:
		c.atom()
		c.emit(instruction{operation: negate})
	case tokens.Num:
		number, _ := strconv.ParseInt(token.Text, 10, 64)
		c.put(values.Int(number))
	case tokens.String:
		c.put(values.Text(token.Text[1 : len(token.Text)-1]))
	case tokens.True, tokens.False:
		c.put(values.Bool(token.Kind == tokens.True))
	case tokens.Cell:
		number, _ := cells.Number(token.Text)
		c.emit(instruction{operation: read, cell: number})
	case tokens.Open:
		c.formula()
		c.take()
	case tokens.If:
		c.choice()
	case tokens.At:
		c.bracketed()
		c.emit(instruction{operation: readNamed})
	case tokens.Bad:
		c.guarded()
	case tokens.Sum:
		// A cell without a formula adds nothing: passed over or worth 0 is one.
		c.each(read, add)
	case tokens.Count:
		c.each(readApart, tally)
	}
}

func (c *compiler) bracketed() {
	c.take()
	c.formula()
	c.take()
}

func (c *compiler) choice() {
	c.bracketed() // with `,` for the second bracket
	branch := c.emit(instruction{operation: choose})
	c.formula()
	end := c.emit(instruction{operation: jump})
	c.code[branch].to = len(c.code)
	c.bracketed() // with `,` for the first bracket
	c.code[end].to = len(c.code)
}

func (c *compiler) guarded() {
	start := c.emit(instruction{operation: guard})
	c.bracketed()
	c.emit(instruction{operation: unguard})
	c.code[start].to = len(c.code)
}

// each compiles a range: it begins with 0, and reads and takes in one cell behind the other.
func (c *compiler) each(reading, taking operation) {
	c.take()
	first := c.take()
	c.take()
	last := c.take()
	c.take()
	c.put(values.Int(0))
	for _, cell := range cells.Range(first.Text, last.Text) {
		c.emit(instruction{operation: reading, cell: cell})
		c.emit(instruction{operation: taking})
	}
}

func (c *compiler) kind() tokens.Kind {
	if len(c.list) == 0 {
		return tokens.None
	}
	return c.list[0].Kind
}

func (c *compiler) take() tokens.Token {
	if len(c.list) == 0 {
		return tokens.Token{}
	}
	token := c.list[0]
	c.list = c.list[1:]
	return token
}

func (c *compiler) put(value api.Value) {
	c.emit(instruction{operation: put, value: value})
}

// emit tells the instruction's number, so that where it goes to can be set when that is known.
func (c *compiler) emit(i instruction) int {
	c.code = append(c.code, i)
	return len(c.code) - 1
}
