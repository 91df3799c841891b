package grammar

import (
	"slices"
	"strings"
	"testing"

	"sheets/api"
	"sheets/tokens"
)

func TestReadTellsBothKindsOfMinus(t *testing.T) {
	list, fault, place := Read("-A1 - --(-2)")
	var kinds []tokens.Kind
	for _, token := range list {
		kinds = append(kinds, token.Kind)
	}
	want := []tokens.Kind{
		tokens.Negate, tokens.Cell, tokens.Minus, tokens.Negate, tokens.Negate, tokens.Open, tokens.Negate, tokens.Num, tokens.Close,
	}
	if fault != api.OK || place != 0 || !slices.Equal(kinds, want) {
		t.Errorf("Read: kinds %v, %d, %d, want %v", kinds, fault, place, want)
	}
}

func TestReadTellsNoTokensBesideAFault(t *testing.T) {
	for text, want := range map[string]api.Errno{
		string(make([]byte, api.MaxText+1)): api.ErrLong, "1 ?": api.ErrToken, "1 1": api.ErrSyntax, "1 + G1": api.ErrCell,
	} {
		if list, fault, _ := Read(text); list != nil || fault != want {
			t.Errorf("Read(%q) = %v, %d, want none, %d", text, list, fault, want)
		}
	}
}

func TestReadAllTakesTextsOfAnyLength(t *testing.T) {
	text := strings.Repeat("1 + ", 100) + "A1"
	if list, fault, place := ReadAll(text); len(list) != 201 || fault != api.OK || place != 0 {
		t.Errorf("ReadAll: %d tokens, %d, %d, want 201, OK, 0", len(list), fault, place)
	}
	for text, want := range map[string]api.Errno{text + "?": api.ErrToken, text + " B1": api.ErrSyntax, text + " + G1": api.ErrCell} {
		if list, fault, place := ReadAll(text); list != nil || fault != want || place < 400 {
			t.Errorf("ReadAll: %v, %d, %d, want none, %d", list, fault, place, want)
		}
	}
}
