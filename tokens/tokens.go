// Package tokens cuts the text of a formula into tokens.
package tokens

import (
	"strconv"
	"strings"

	"sheets/api"
)

// Kind tells what a token is.
type Kind int

// The kinds of tokens.
const (
	None Kind = iota
	Num
	String
	True
	False
	Cell
	If
	At
	Bad
	Sum
	Count
	Other // a WORD that stands nowhere
	Open
	Close
	Comma
	Colon
	Plus
	Minus
	Times
	Divide
	Join
	Equal
	Less
	Negate // a `-` ahead of an ATOM: the grammar tells it from Minus, Scan does not
)

// maxWord is how many bytes a WORD may have.
const maxWord = 5

// Token is a piece of a formula's text: Place bytes of the text stand ahead of it.
type Token struct {
	Kind  Kind
	Text  string
	Place int
}

// Scan tells the tokens of a text; if a byte begins no token, false and the place of the first such byte.
func Scan(text string) ([]Token, int, bool) {
	var list []Token
	for at := 0; at < len(text); {
		if text[at] == ' ' {
			at++
			continue
		}
		kind, size := first(text[at:])
		if kind == None {
			return nil, at, false
		}
		list = append(list, Token{Kind: kind, Text: text[at : at+size], Place: at})
		at += size
	}
	return list, 0, true
}

// first tells the kind and the size of the token that a text of one byte or more begins with; None, if there is none.
func first(text string) (Kind, int) {
	switch c := text[0]; {
	case isDigit(c):
		return number(text)
	case isLetter(c):
		return word(text)
	case c == '"':
		return quoted(text)
	default:
		return sign(c), 1
	}
}

// number takes the whole row of digits, so that of a row that is too long no piece is a NUM.
func number(text string) (Kind, int) {
	size := 1
	for size < len(text) && isDigit(text[size]) {
		size++
	}
	if size > api.MaxDigits {
		return None, 0
	}
	if _, err := strconv.ParseInt(text[:size], 10, 64); err != nil {
		return None, 0
	}
	return Num, size
}

// word takes the whole row of letters and digits, so that of a row that is too long no piece is a WORD.
func word(text string) (Kind, int) {
	size := 1
	for size < len(text) && (isLetter(text[size]) || isDigit(text[size])) {
		size++
	}
	if size > maxWord {
		return None, 0
	}
	return wordKind(text[:size]), size
}

func wordKind(word string) Kind {
	switch word {
	case "true":
		return True
	case "false":
		return False
	case "if":
		return If
	case "at":
		return At
	case "bad":
		return Bad
	case "sum":
		return Sum
	case "count":
		return Count
	}
	if looksLikeCell(word) {
		return Cell
	}
	return Other
}

// looksLikeCell asks for the form of a CELL alone: whether the sheet has it does not matter to the grammar.
func looksLikeCell(word string) bool {
	if len(word) < 2 || word[0] < 'A' || word[0] > 'Z' {
		return false
	}
	for at := 1; at < len(word); at++ {
		if !isDigit(word[at]) {
			return false
		}
	}
	return true
}

func quoted(text string) (Kind, int) {
	size := strings.IndexByte(text[1:], '"')
	if size < 0 || size > api.MaxString {
		return None, 0
	}
	for at := 1; at <= size; at++ {
		if text[at] < 32 || text[at] > 126 {
			return None, 0
		}
	}
	return String, size + 2
}

func sign(c byte) Kind {
	switch c {
	case '(':
		return Open
	case ')':
		return Close
	case ',':
		return Comma
	case ':':
		return Colon
	case '+':
		return Plus
	case '-':
		return Minus
	case '*':
		return Times
	case '/':
		return Divide
	case '&':
		return Join
	case '=':
		return Equal
	case '<':
		return Less
	}
	return None
}

func isDigit(c byte) bool {
	return c >= '0' && c <= '9'
}

func isLetter(c byte) bool {
	return c >= 'A' && c <= 'Z' || c >= 'a' && c <= 'z'
}
