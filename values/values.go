// Package values has the values of formulas: what the signs make of them, and how they are shown.
package values

import (
	"math"
	"strconv"

	"sheets/api"
)

// Int, Bool, Text and Error make values.
func Int(number int64) api.Value {
	return api.Value{Kind: api.Int, N: number}
}

func Bool(truth bool) api.Value {
	if truth {
		return api.Value{Kind: api.Bool, N: 1}
	}
	return api.Value{Kind: api.Bool}
}

func Text(text string) api.Value {
	return api.Value{Kind: api.Text, S: text}
}

func Error(number int64) api.Value {
	return api.Value{Kind: api.Error, N: number}
}

func Negate(value api.Value) api.Value {
	return Subtract(Int(0), value)
}

// Add finds a sum that is none of 64 bits by its sign: two numbers of one sign came to one of the other.
func Add(first, second api.Value) api.Value {
	if !both(api.Int, first, second) {
		return Error(api.Type)
	}
	sum := first.N + second.N
	if (first.N < 0) == (second.N < 0) && (sum < 0) != (first.N < 0) {
		return Error(api.Over)
	}
	return Int(sum)
}

func Subtract(first, second api.Value) api.Value {
	if !both(api.Int, first, second) {
		return Error(api.Type)
	}
	difference := first.N - second.N
	if (first.N < 0) != (second.N < 0) && (difference < 0) != (first.N < 0) {
		return Error(api.Over)
	}
	return Int(difference)
}

func Multiply(first, second api.Value) api.Value {
	if !both(api.Int, first, second) {
		return Error(api.Type)
	}
	product := first.N * second.N
	// Dividing back tells every product that wrapped round but one, as that division wraps round too.
	if second.N == -1 && first.N == math.MinInt64 || second.N != 0 && product/second.N != first.N {
		return Error(api.Over)
	}
	return Int(product)
}

func Divide(first, second api.Value) api.Value {
	if !both(api.Int, first, second) {
		return Error(api.Type)
	}
	if second.N == 0 {
		return Error(api.Div)
	}
	if second.N == -1 {
		return Negate(first)
	}
	return Int(first.N / second.N)
}

func Join(first, second api.Value) api.Value {
	if !both(api.Text, first, second) {
		return Error(api.Type)
	}
	if len(first.S)+len(second.S) > api.MaxString {
		return Error(api.Over)
	}
	return Text(first.S + second.S)
}

// Equal is asked of Ints, Bools and Texts alone.
func Equal(first, second api.Value) api.Value {
	if first.Kind != second.Kind {
		return Error(api.Type)
	}
	return Bool(first == second)
}

func Less(first, second api.Value) api.Value {
	switch {
	case both(api.Int, first, second):
		return Bool(first.N < second.N)
	case both(api.Text, first, second):
		return Bool(first.S < second.S)
	}
	return Error(api.Type)
}

func both(kind int, first, second api.Value) bool {
	return first.Kind == kind && second.Kind == kind
}

// Show tells a value as a text; the empty text of None.
func Show(value api.Value) string {
	switch value.Kind {
	case api.Int:
		return strconv.FormatInt(value.N, 10)
	case api.Bool:
		return strconv.FormatBool(value.N == 1)
	case api.Text:
		return `"` + value.S + `"`
	case api.Error:
		return showError(value.N)
	}
	return ""
}

func showError(number int64) string {
	switch number {
	case api.Over:
		return "#OVER"
	case api.Div:
		return "#DIV"
	case api.Ref:
		return "#REF"
	case api.Type:
		return "#TYPE"
	case api.Cycle:
		return "#CYCLE"
	}
	return ""
}
