package sheets_test

import (
	"math"
	"strings"
	"testing"

	"sheets/api"
)

func TestShowTellsEveryKind(t *testing.T) {
	everyWay(func(order, way int) {
		s := given(t, 1, "A1=5", "B1=-5", "C1=0", "D1=-0", "E1="+greatest, "F1="+least, "A2=true", "B2=false", `C2="a b"`, `D2=""`, `E2="  "`, `F2="#DIV=~!$'\"`,
			"A3="+greatest+"+1", "B3=1/0", `C3=at("")`, "D3=-true", "E3=E3", "F3=007", `A4="12345678901234567890"`, "F8=10")
		if text := s.Show(); text != "" {
			t.Errorf("P8: Show ahead of Work = %q, want an empty text", text)
		}
		work(t, s, order, way)
		want := "A1=5\nB1=-5\nC1=0\nD1=0\nE1=9223372036854775807\nF1=-9223372036854775808\nA2=true\nB2=false\nC2=\"a b\"\nD2=\"\"\nE2=\"  \"\nF2=\"#DIV=~!$'\\\"\n" +
			"A3=#OVER\nB3=#DIV\nC3=#REF\nD3=#TYPE\nE3=#CYCLE\nF3=7\nA4=\"12345678901234567890\"\nF8=10\n"
		if text := s.Show(); text != want {
			t.Errorf("P8: Show = %q, want %q", text, want)
		}
	})
}

func TestShowGoesInTheOrderOfCells(t *testing.T) {
	s := newSheet(t, 0)
	var want strings.Builder
	for i, cell := range cellNames() {
		other := cellNames()[len(cellNames())-1-i]
		give(t, s, other+`="`+other+`"`)
		want.WriteString(cell + `="` + cell + `"` + "\n")
	}
	work(t, s, api.Restart, api.Recall)
	if text := s.Show(); text != want.String() {
		t.Errorf("P8: Show = %q, want %q", text, want.String())
	}
}

func TestShowLeavesOutCellsWithoutFormulas(t *testing.T) {
	s := given(t, 0, "B2=C3", "D4=sum(A1:C3)")
	work(t, s, api.Chain, api.Dirty)
	checkLines(t, s, "B2=0 D4=0")
	checkValue(t, s, "C3", api.Value{})
	give(t, s, "B2=")
	checkLines(t, s, "B2=0 D4=0")
	work(t, s, api.Chain, api.Dirty)
	checkLines(t, s, "D4=0")
}

func TestShowOfNumbersOfEverySize(t *testing.T) {
	for digits := 1; digits <= api.MaxDigits; digits++ {
		for _, digit := range "123456789" {
			number := string(digit) + strings.Repeat("0", digits-1)
			s := given(t, 0, "A1="+number, "B1=-"+number, "C1="+strings.Repeat("0", api.MaxDigits-digits)+number)
			work(t, s, api.Suspend, api.Dirty)
			checkLines(t, s, "A1="+number+" B1=-"+number+" C1="+number)
		}
	}
	s := given(t, 0, "A1="+least)
	work(t, s, api.Suspend, api.Dirty)
	checkValue(t, s, "A1", intValue(math.MinInt64))
}
