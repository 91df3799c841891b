package grammar

import (
	"strconv"

	"sheets/tokens"
)

// Number tells the number of a formula that is a NUM, or `-` and a NUM, and nothing else; false, if it is another one.
func Number(list []tokens.Token) (int64, bool) {
	digits, sign := list, int64(1)
	if len(list) > 0 && list[0].Kind == tokens.Negate {
		digits, sign = list[1:], -1
	}
	if len(digits) != 1 || digits[0].Kind != tokens.Num {
		return 0, false
	}
	number, err := strconv.ParseInt(digits[0].Text, 10, 64)
	if err != nil {
		return 0, false
	}
	// A NUM is worth at most the greatest number of 64 bits: with the other sign it is one of 64 bits too.
	return sign * number, true
}
