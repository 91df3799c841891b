package grammar

import (
	"strings"

	"sheets/tokens"
)

// Plain tells the plain form of a formula from the tokens that Read told.
func Plain(list []tokens.Token) string {
	var text strings.Builder
	for _, token := range list {
		text.WriteString(plainToken(token))
	}
	return text.String()
}

// plainToken tells a token with the blanks that go with it. A Negate has none of its own: those ahead of it, if there
// are any, belong to the sign or the comma there.
func plainToken(token tokens.Token) string {
	switch token.Kind {
	case tokens.Num:
		return withoutNoughts(token.Text)
	case tokens.Plus, tokens.Minus, tokens.Times, tokens.Divide, tokens.Join, tokens.Equal, tokens.Less:
		return " " + token.Text + " "
	case tokens.Comma:
		return token.Text + " "
	}
	return token.Text
}

func withoutNoughts(digits string) string {
	rest := strings.TrimLeft(digits, "0")
	if rest == "" {
		return "0"
	}
	return rest
}
