package sheets_test

import (
	"slices"
	"strings"
	"testing"

	"sheets/api"
)

// wanted is what may stand next: a token itself, or a part of the grammar inside so many brackets and behind so many `-`.
// It is the grammar written a second time, as a stack of what is still wanted, to hold Plain against.
type wanted struct {
	token   string // empty, if it is a part
	part    part
	depth   int
	negated int
}

type part int

const (
	formula part = iota
	compared
	sum
	added
	product
	multiplied
	atom
)

// noToken stands where a bracket would be too deep: nothing can be there.
const noToken = "no token"

// parts tells what a part is made of if this token comes next: nothing, if the part may be left out there; false, if
// neither will do.
func parts(w wanted, token string) ([]wanted, bool) {
	in := func(p part) wanted { return wanted{part: p, depth: w.depth} }
	signed := func(signs string, more part) ([]wanted, bool) {
		if strings.Contains(signs, token) {
			return []wanted{{token: token}, in(more)}, true
		}
		return nil, true
	}
	switch w.part {
	case formula:
		return []wanted{in(sum), in(compared)}, true
	case sum:
		return []wanted{in(product), in(added)}, true
	case product:
		return []wanted{in(atom), in(multiplied)}, true
	case compared:
		return signed("=<", sum)
	case added:
		return signed("+-&", sum)
	case multiplied:
		return signed("*/", product)
	}
	return atomParts(w, token)
}

func atomParts(w wanted, token string) ([]wanted, bool) {
	inner := wanted{part: formula, depth: w.depth + 1}
	itself, open, shut, comma, corner := wanted{token: token}, wanted{token: "("}, wanted{token: ")"}, wanted{token: ","}, wanted{token: "A1"}
	if w.depth == api.MaxDepth {
		open.token = noToken
	}
	switch token {
	case "07", `"s"`, "true", "A1":
		return []wanted{itself}, true
	case "-":
		return []wanted{itself, {part: atom, depth: w.depth, negated: w.negated + 1}}, w.negated < api.MaxDepth
	case "(":
		return []wanted{open, inner, shut}, true
	case "if":
		return []wanted{itself, open, inner, comma, inner, comma, inner, shut}, true
	case "at", "bad":
		return []wanted{itself, open, inner, shut}, true
	case "sum", "count":
		return []wanted{itself, open, corner, {token: ":"}, corner, shut}, true
	}
	return nil, false
}

// after tells what is wanted behind a token, the next one last; false, if the token can't stand there.
func after(stack []wanted, token string) ([]wanted, bool) {
	stack = slices.Clone(stack)
	for len(stack) > 0 {
		top := stack[len(stack)-1]
		stack = stack[:len(stack)-1]
		if top.token != "" {
			return stack, top.token == token
		}
		made, ok := parts(top, token)
		if !ok {
			return nil, false
		}
		slices.Reverse(made)
		stack = append(stack, made...)
	}
	return nil, false
}

// done tells whether all that is wanted may be left out.
func done(stack []wanted) bool {
	for _, w := range stack {
		if w.token != "" || w.part != compared && w.part != added && w.part != multiplied {
			return false
		}
	}
	return true
}

// spaced tells the plain form of tokens, by the token that stands ahead of each `-`.
func spaced(list []string) string {
	var text strings.Builder
	for i, token := range list {
		isAhead := token == "-" && (i == 0 || strings.Contains("(,+-*/&=<", list[i-1]))
		switch {
		case token == "07":
			text.WriteString("7")
		case token == ",":
			text.WriteString(", ")
		case strings.Contains("+-*/&=<", token) && !isAhead:
			text.WriteString(" " + token + " ")
		default:
			text.WriteString(token)
		}
	}
	return text.String()
}

func alphabet() []string {
	return []string{"07", `"s"`, "true", "A1", "if", "at", "bad", "sum", "foo", "(", ")", ",", ":", "+", "-", "&", "*", "=", "<"}
}

// walk holds Plain against every row of tokens that goes on from these, as long as a formula can begin so.
func walk(t *testing.T, list []string, stack []wanted, further int) {
	text := strings.Join(list, " ")
	if done(stack) {
		checkPlain(t, text, spaced(list))
	} else {
		checkFault(t, text, api.ErrSyntax, len(text))
	}
	if further == 0 || t.Failed() {
		return
	}
	for _, token := range alphabet() {
		longer := append(slices.Clone(list), token)
		if next, ok := after(stack, token); ok {
			walk(t, longer, next, further-1)
		} else {
			place := len(strings.Join(longer, " ")) - len(token)
			checkFault(t, strings.Join(longer, " "), api.ErrSyntax, place)
			checkFault(t, strings.Join(longer, " ")+" ) G9", api.ErrSyntax, place)
		}
	}
}

func walkFrom(t *testing.T, start string, further int) {
	list := strings.Fields(start)
	stack := []wanted{{part: formula}}
	for _, token := range list {
		next, ok := after(stack, token)
		if !ok {
			t.Fatalf("the walk can't start from %q", start)
		}
		stack = next
	}
	walk(t, list, stack, further)
}

func TestEveryRowOfTokens(t *testing.T) {
	walkFrom(t, "", 5)
}

func TestEveryRowOfTokensAtTheEdges(t *testing.T) {
	for _, start := range []string{
		"( ( ( ( ( ( (", "( ( ( ( ( ( ( (", "at ( bad ( - ( if ( 07 , ( ( ( (", "- - - - - - -", "07 - - - - - - - -", "( - - - - - - - ( - - - - - - -",
		"if ( 07 , - 07 * at ( A1 )", "if ( 07 = 07 , A1 ,", "sum ( A1 : A1 )", "07 + 07 * 07 <", "( 07 < ( 07 ) )", "count ( A1 :",
	} {
		walkFrom(t, start, 3)
	}
}
