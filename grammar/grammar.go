// Package grammar reads formulas: it tells their faults, and their plain form.
package grammar

import (
	"sheets/api"
	"sheets/tokens"
)

// Read tells the tokens of a formula, those `-` that stand ahead of an ATOM as Negate; or its fault, and the place of that.
func Read(text string) ([]tokens.Token, api.Errno, int) {
	if len(text) > api.MaxText {
		return nil, api.ErrLong, 0
	}
	return ReadAll(text)
}

// ReadAll is Read of a text that may have any length: a plain form may be longer than the text that it comes of.
func ReadAll(text string) ([]tokens.Token, api.Errno, int) {
	list, place, ok := tokens.Scan(text)
	if !ok {
		return nil, api.ErrToken, place
	}
	p := parser{list: list}
	if !p.formula() || p.next < len(list) {
		return nil, api.ErrSyntax, p.place(len(text))
	}
	if place, ok := checkCells(list); !ok {
		return nil, api.ErrCell, place
	}
	return list, api.OK, 0
}

// parser goes over the tokens once. Its methods answer whether what they are named for stands next; if not, next is
// left at the token that can't stand there. No token is taken unless a formula can go on behind it: so the place holds.
type parser struct {
	list  []tokens.Token
	next  int
	depth int // of the brackets that are open
}

// place tells where the next token stands, or the text's end if there is none.
func (p *parser) place(end int) int {
	if p.next < len(p.list) {
		return p.list[p.next].Place
	}
	return end
}

func (p *parser) kind() tokens.Kind {
	if p.next < len(p.list) {
		return p.list[p.next].Kind
	}
	return tokens.None
}

// take goes over the next token if it is of one of these kinds.
func (p *parser) take(kinds ...tokens.Kind) bool {
	for _, kind := range kinds {
		if p.kind() == kind {
			p.next++
			return true
		}
	}
	return false
}

func (p *parser) formula() bool {
	if !p.sum() {
		return false
	}
	if !p.take(tokens.Equal, tokens.Less) {
		return true
	}
	return p.sum()
}

func (p *parser) sum() bool {
	for p.product() {
		if !p.take(tokens.Plus, tokens.Minus, tokens.Join) {
			return true
		}
	}
	return false
}

func (p *parser) product() bool {
	for p.atom() {
		if !p.take(tokens.Times, tokens.Divide) {
			return true
		}
	}
	return false
}

func (p *parser) atom() bool {
	p.negations()
	switch p.kind() {
	case tokens.Num, tokens.String, tokens.True, tokens.False, tokens.Cell:
		p.next++
		return true
	case tokens.Open:
		return p.bracketed(p.formula)
	case tokens.If:
		p.next++
		return p.bracketed(p.choice)
	case tokens.At, tokens.Bad:
		p.next++
		return p.bracketed(p.formula)
	case tokens.Sum, tokens.Count:
		p.next++
		return p.bracketed(p.corners)
	}
	return false
}

// negations leaves a `-` that is one too many where it is: there no ATOM begins with it.
func (p *parser) negations() {
	for range api.MaxDepth {
		if !p.take(tokens.Minus) {
			return
		}
		p.list[p.next-1].Kind = tokens.Negate
	}
}

// bracketed leaves a `(` that is too deep where it is: the word ahead of it may stand there, the bracket may not.
func (p *parser) bracketed(inner func() bool) bool {
	if p.depth == api.MaxDepth || !p.take(tokens.Open) {
		return false
	}
	p.depth++
	if !inner() || !p.take(tokens.Close) {
		return false
	}
	p.depth--
	return true
}

func (p *parser) choice() bool {
	return p.formula() && p.take(tokens.Comma) && p.formula() && p.take(tokens.Comma) && p.formula()
}

func (p *parser) corners() bool {
	return p.take(tokens.Cell) && p.take(tokens.Colon) && p.take(tokens.Cell)
}
