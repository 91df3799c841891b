package sheets_test

import (
	"math/rand"
	"strings"
	"sync"
	"testing"
	"unsafe"

	"sheets/api"
	"sheets/sheets"
)

func formulas() []string {
	return []string{
		`1+02*-A1`, `if(A1<3,"x y",at("B"&"2"))`, `--1 - -2`, `((((((((1))))))))`, `sum(A1:F2)+count(F8:F8)`, `bad(-9223372036854775807/0)`,
		`"12345678901234567890"&"~"`, `--------(--------1)`, `if(true=false,sum( C3 : D5 ),-at( "" ))`, ``, ` `, `"`, `G1`, `1 1`, `1 ?`,
	}
}

// checkShape: what P1 says of every answer of Plain, whatever the text.
func checkShape(t *testing.T, formula string) {
	t.Helper()
	text, fault, place := sheets.Plain(formula)
	switch fault {
	case api.OK:
		if text == "" || place != 0 {
			t.Errorf("P1: Plain(%q) = %q, OK, %d", formula, text, place)
		}
		if len(text) <= api.MaxText {
			checkPlain(t, text, text)
		}
	case api.ErrLong:
		if text != "" || place != 0 || len(formula) <= api.MaxText {
			t.Errorf("P1: Plain(%q) = %q, ErrLong, %d", formula, text, place)
		}
	case api.ErrToken, api.ErrCell:
		if text != "" || place < 0 || place >= len(formula) {
			t.Errorf("P1: Plain(%q) = %q, %d, %d", formula, text, fault, place)
		}
	case api.ErrSyntax:
		if text != "" || place < 0 || place > len(formula) {
			t.Errorf("P1: Plain(%q) = %q, ErrSyntax, %d", formula, text, place)
		}
	default:
		t.Errorf("P1: Plain(%q): the fault %d is none of Plain's", formula, fault)
	}
}

func TestPlainEndsAtShortTexts(t *testing.T) {
	for first := range 256 {
		checkShape(t, string([]byte{byte(first)}))
		for second := range 256 {
			checkShape(t, string([]byte{byte(first), byte(second)}))
		}
	}
}

func TestPlainEndsAtFormulasWithOneByteWrong(t *testing.T) {
	for _, formula := range formulas() {
		for at := range formula {
			checkShape(t, formula[:at])
			checkShape(t, formula[at:])
			checkShape(t, formula[:at]+formula[at+1:])
			for c := range 256 {
				checkShape(t, formula[:at]+string([]byte{byte(c)})+formula[at+1:])
				checkShape(t, formula[:at]+string([]byte{byte(c)})+formula[at:])
			}
		}
	}
}

func TestPlainEndsAtAnyText(t *testing.T) {
	// The seed is fixed, so that a failure comes again.
	source := rand.New(rand.NewSource(1))
	pieces := append(formulas(), "(", ")", ",", ":", "+", "-", "*", "/", "&", "=", "<", "if(", "sum(A1:", "at", "A1", "7", "0", "\"", "x", "\x00", "é", "\xff")
	for range 50000 {
		var text strings.Builder
		for range source.Intn(40) {
			text.WriteString(pieces[source.Intn(len(pieces))])
		}
		checkShape(t, text.String())
	}
	for _, piece := range pieces {
		checkShape(t, strings.Repeat(piece, 100000))
	}
}

type answer struct {
	text  string
	fault api.Errno
	place int
}

func ask(formula string) answer {
	text, fault, place := sheets.Plain(formula)
	return answer{text, fault, place}
}

func TestPlainHangsOnItsArgumentAlone(t *testing.T) {
	first := map[string]answer{}
	for _, formula := range formulas() {
		first[formula] = ask(formula)
	}
	for _, ahead := range formulas() {
		for _, formula := range formulas() {
			ask(ahead)
			if got := ask(formula); got != first[formula] {
				t.Errorf("P2: Plain(%q) behind Plain(%q) = %v, ahead of it %v", formula, ahead, got, first[formula])
			}
		}
	}
	var workers sync.WaitGroup
	for _, formula := range formulas() {
		workers.Add(1)
		go func() {
			defer workers.Done()
			for range 1000 {
				if got := ask(formula); got != first[formula] {
					t.Errorf("P2: Plain(%q) beside others = %v, alone %v", formula, got, first[formula])
					return
				}
			}
		}()
	}
	workers.Wait()
}

func TestPlainAnswersInNewMemory(t *testing.T) {
	for _, formula := range []string{`A1`, `"x y"`, `7`, `1 + 2`, `007`, ` true`} {
		text, _, _ := sheets.Plain(formula)
		from, to := uintptr(unsafe.Pointer(unsafe.StringData(formula))), uintptr(unsafe.Pointer(unsafe.StringData(text)))
		if to >= from && to < from+uintptr(len(formula)) {
			t.Errorf("P2: Plain(%q) answers with a piece of its argument", formula)
		}
	}
}
