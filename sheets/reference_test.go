package sheets_test

import (
	"math/big"
	"regexp"
	"slices"
	"strings"

	"sheets/api"
)

// A second writing of what formulas are worth: over trees, by recursion, with numbers of any size.

var anyWord = regexp.MustCompile(`[0-9]+|"[^"]*"|[A-Za-z][A-Za-z0-9]*|[^ ]`)

// reading is a cell that a formula read, and what it saw there; bare: by count, to which no formula is another thing than 0.
type reading struct {
	cell string
	bare bool
	seen api.Value
}

// result is what came of a cell's formula.
type result struct {
	value api.Value
	reads []reading
}

// hang is the panic of a formula that reads a cell that hangs on itself.
type hang struct{}

type reference struct {
	texts   map[string]string
	results map[string]result
	path    []string
	reads   []reading
}

// refer tells what comes of all cells that have formulas.
func refer(texts map[string]string) map[string]result {
	r := &reference{texts: texts, results: map[string]result{}}
	for cell := range texts {
		r.worth(cell)
	}
	return r.results
}

func (r *reference) worth(cell string) api.Value {
	if r.texts[cell] == "" {
		return api.Value{}
	}
	if slices.Contains(r.path, cell) {
		return cycleValue()
	}
	if _, done := r.results[cell]; !done {
		r.path = append(r.path, cell)
		found := r.workOut(r.texts[cell])
		r.path = r.path[:len(r.path)-1]
		r.results[cell] = found
	}
	return r.results[cell].value
}

func (r *reference) workOut(text string) (found result) {
	outer := r.reads
	r.reads = nil
	defer func() {
		if problem := recover(); problem != nil {
			_ = problem.(hang)
			found = result{value: cycleValue()}
		}
		r.reads = outer
	}()
	words := anyWord.FindAllString(text, -1)
	value := r.eval(growFormula(&words))
	return result{value: value, reads: r.reads}
}

func (r *reference) read(cell string, bare bool) api.Value {
	value := r.worth(cell)
	if value == cycleValue() {
		panic(hang{})
	}
	value = seenAs(value, bare)
	r.reads = append(r.reads, reading{cell, bare, value})
	return value
}

func seenAs(value api.Value, bare bool) api.Value {
	if value.Kind == api.None && !bare {
		return intValue(0)
	}
	return value
}

func intValue(n int64) api.Value      { return api.Value{Kind: api.Int, N: n} }
func textValue(text string) api.Value { return api.Value{Kind: api.Text, S: text} }
func errorValue(n int64) api.Value    { return api.Value{Kind: api.Error, N: n} }
func cycleValue() api.Value           { return errorValue(api.Cycle) }

func boolValue(truth bool) api.Value {
	return api.Value{Kind: api.Bool, N: map[bool]int64{true: 1}[truth]}
}

// tree is a formula, or a part of one: its word or sign, and the parts of it.
type tree struct {
	word string
	kids []tree
}

func growFormula(words *[]string) tree {
	left := growSum(words)
	if len(*words) > 0 && strings.Contains("=<", (*words)[0]) {
		left = tree{pull(words), []tree{left, growSum(words)}}
	}
	return left
}

func growSum(words *[]string) tree {
	left := growProduct(words)
	for len(*words) > 0 && strings.Contains("+-&", (*words)[0]) {
		left = tree{pull(words), []tree{left, growProduct(words)}}
	}
	return left
}

func growProduct(words *[]string) tree {
	left := growAtom(words)
	for len(*words) > 0 && strings.Contains("*/", (*words)[0]) {
		left = tree{pull(words), []tree{left, growAtom(words)}}
	}
	return left
}

func growAtom(words *[]string) tree {
	word := pull(words)
	grown := tree{word: word}
	switch word {
	case "-":
		return tree{"negate", []tree{growAtom(words)}}
	case "(":
		grown = growFormula(words)
		pull(words)
	case "if", "at", "bad", "sum", "count":
		// Ahead of each part stands a bracket, a comma or a colon.
		for pull(words) != ")" {
			grown.kids = append(grown.kids, growFormula(words))
		}
	}
	return grown
}

func pull(words *[]string) string {
	word := (*words)[0]
	*words = (*words)[1:]
	return word
}

func (r *reference) eval(t tree) api.Value {
	switch t.word {
	case "true", "false":
		return boolValue(t.word == "true")
	case "if":
		return r.evalIf(t)
	case "at":
		return r.evalAt(t)
	case "bad":
		return boolValue(r.eval(t.kids[0]).Kind == api.Error)
	case "sum", "count":
		return r.evalRange(t)
	}
	if len(t.kids) > 0 {
		return r.evalSign(t)
	}
	if strings.HasPrefix(t.word, `"`) {
		return textValue(strings.Trim(t.word, `"`))
	}
	if slices.Contains(cellNames(), t.word) {
		return r.read(t.word, false)
	}
	number, _ := new(big.Int).SetString(t.word, 10)
	return sized(number)
}

func (r *reference) evalIf(t tree) api.Value {
	choice := r.eval(t.kids[0])
	switch choice {
	case boolValue(true):
		return r.eval(t.kids[1])
	case boolValue(false):
		return r.eval(t.kids[2])
	}
	return errorOr(choice, api.Type)
}

func (r *reference) evalAt(t tree) api.Value {
	name := r.eval(t.kids[0])
	if name.Kind != api.Text {
		return errorOr(name, api.Type)
	}
	if !slices.Contains(cellNames(), name.S) {
		return errorValue(api.Ref)
	}
	return r.read(name.S, false)
}

// errorOr: an Error is what the whole is worth; of another value comes this one.
func errorOr(value api.Value, other int64) api.Value {
	if value.Kind == api.Error {
		return value
	}
	return errorValue(other)
}

func (r *reference) evalRange(t tree) api.Value {
	first, last := t.kids[0].word, t.kids[1].word
	total, ints := intValue(0), int64(0)
	for _, cell := range cellNames() {
		if cell[0] < first[0] || cell[0] > last[0] || cell[1] < first[1] || cell[1] > last[1] {
			continue
		}
		value := r.read(cell, t.word == "count")
		if value.Kind == api.Error {
			return value
		}
		if value.Kind == api.Int {
			ints++
		}
		if t.word == "sum" {
			if total = applySign("+", total, value); total.Kind == api.Error {
				return total
			}
		}
	}
	if t.word == "count" {
		return intValue(ints)
	}
	return total
}

func (r *reference) evalSign(t tree) api.Value {
	var parts []api.Value
	for _, kid := range t.kids {
		value := r.eval(kid)
		if value.Kind == api.Error {
			return value
		}
		parts = append(parts, value)
	}
	if t.word == "negate" {
		return applySign("-", intValue(0), parts[0])
	}
	return applySign(t.word, parts[0], parts[1])
}

func applySign(sign string, a, b api.Value) api.Value {
	if a.Kind != b.Kind || strings.Contains("+-*/", sign) && a.Kind != api.Int || sign == "&" && a.Kind != api.Text || sign == "<" && a.Kind == api.Bool {
		return errorValue(api.Type)
	}
	x, y := big.NewInt(a.N), big.NewInt(b.N)
	switch sign {
	case "=":
		return boolValue(a.N == b.N && a.S == b.S)
	case "<":
		return boolValue(x.Cmp(y) < 0 || strings.Compare(a.S, b.S) < 0)
	case "&":
		if len(a.S)+len(b.S) > api.MaxString {
			return errorValue(api.Over)
		}
		return textValue(a.S + b.S)
	case "+":
		return sized(x.Add(x, y))
	case "-":
		return sized(x.Sub(x, y))
	case "*":
		return sized(x.Mul(x, y))
	}
	if y.Sign() == 0 {
		return errorValue(api.Div)
	}
	return sized(x.Quo(x, y))
}

func sized(number *big.Int) api.Value {
	if !number.IsInt64() {
		return errorValue(api.Over)
	}
	return intValue(number.Int64())
}
