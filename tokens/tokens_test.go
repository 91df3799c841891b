package tokens

import (
	"slices"
	"strings"
	"testing"
)

func TestScanTellsKindTextAndPlace(t *testing.T) {
	list, place, ok := Scan(`if( A1<012,"x y",at("")) - foo`)
	want := []Token{
		{If, "if", 0}, {Open, "(", 2}, {Cell, "A1", 4}, {Less, "<", 6}, {Num, "012", 7}, {Comma, ",", 10},
		{String, `"x y"`, 11}, {Comma, ",", 16}, {At, "at", 17}, {Open, "(", 19}, {String, `""`, 20}, {Close, ")", 22},
		{Close, ")", 23}, {Minus, "-", 25}, {Other, "foo", 27},
	}
	if !ok || place != 0 || !slices.Equal(list, want) {
		t.Errorf("Scan = %v, %d, %v, want %v", list, place, ok, want)
	}
}

func TestEachKind(t *testing.T) {
	for text, want := range map[string]Kind{
		"0": Num, "0000000000000000000": Num, "9223372036854775807": Num, `"~ !"`: String, `"12345678901234567890"`: String,
		"true": True, "false": False, "A1": Cell, "Z0": Cell, "A1234": Cell, "if": If, "at": At, "bad": Bad, "sum": Sum, "count": Count,
		"A": Other, "a1": Other, "A1B": Other, "AA1": Other, "True": Other, "IF": Other, "abcde": Other, "a2345": Other,
		"(": Open, ")": Close, ",": Comma, ":": Colon, "+": Plus, "-": Minus, "*": Times, "/": Divide, "&": Join, "=": Equal, "<": Less,
	} {
		if list, _, ok := Scan(text); !ok || len(list) != 1 || list[0] != (Token{want, text, 0}) {
			t.Errorf("Scan(%q) = %v, %v, want one token of kind %d", text, list, ok, want)
		}
	}
}

func TestTokensAreAsLongAsTheyCanBe(t *testing.T) {
	for text, want := range map[string]string{
		"1A1": "1|A1", "A1:B2": "A1|:|B2", "A 1": "A|1", `A1"x"1`: `A1|"x"|1`, "12 34": "12|34", "--1": "-|-|1", `"a""b"`: `"a"|"b"`, "": "", "   ": "",
	} {
		list, _, ok := Scan(text)
		var texts []string
		for _, token := range list {
			texts = append(texts, token.Text)
		}
		if got := strings.Join(texts, "|"); !ok || got != want {
			t.Errorf("Scan(%q) = %s, %v, want %s", text, got, ok, want)
		}
	}
}

func TestWhatBeginsNoToken(t *testing.T) {
	for text, want := range map[string]int{
		"9223372036854775808": 0, "9999999999999999999": 0, "00000000000000000001": 0, "1 + 12345678901234567890": 4,
		"abcdef": 0, "1abcdef": 1, "A12345": 0, `"`: 0, `1 "x`: 2, `"a"b"`: 4, `"123456789012345678901"`: 0,
		"\"\x1f\"": 0, "\"\x7f\"": 0, "\"\x80\"": 0, "1\t2": 1, "1>2": 1, "A1;": 2, "a_b": 1, "1.5": 1, "\x00": 0, "(é": 1, "!": 0,
	} {
		if list, place, ok := Scan(text); ok || list != nil || place != want {
			t.Errorf("Scan(%q) = %v, %d, %v, want a fault at %d", text, list, place, ok, want)
		}
	}
}

func TestOnlyTheseBytesBeginTokens(t *testing.T) {
	const begins = `0123456789ABCDEFGHIJKLMNOPQRSTUVWXYZabcdefghijklmnopqrstuvwxyz(),:+-*/&=< `
	for c := range 256 {
		text := string([]byte{byte(c)})
		want := strings.IndexByte(begins, byte(c)) >= 0
		if _, _, ok := Scan(text); ok != want {
			t.Errorf("Scan(%q): %v, want %v", text, ok, want)
		}
	}
}
