package sheets_test

import (
	"math"
	"strconv"
	"strings"
	"testing"

	"sheets/api"
	"sheets/sheets"
)

func checkBound(t *testing.T, s *sheets.Sheet, want api.Errno, cell string, lo, hi int64) {
	t.Helper()
	if fault := s.Bound(cell, lo, hi); fault != want {
		t.Errorf("P5: Bound(%.20q, %d, %d) = %d, want %d", cell, lo, hi, fault, want)
	}
}

// checkAllows: A1 may, or may not, be given this text; what stood there stays if it may not.
func checkAllows(t *testing.T, s *sheets.Sheet, text string, allowed bool) {
	t.Helper()
	plain, _, _ := sheets.Plain(text)
	checkEdit(t, s, api.OK, 0, 0, api.Edit{Cell: "A1", Text: `"old"`})
	if allowed {
		checkEdit(t, s, api.OK, 0, 0, api.Edit{Cell: "A1", Text: text})
		checkFormula(t, s, "A1", plain)
		return
	}
	checkEdit(t, s, api.ErrRule, 0, 0, api.Edit{Cell: "A1", Text: text})
	checkFormula(t, s, "A1", `"old"`)
}

func TestBoundTakesNumbersFromLoToHi(t *testing.T) {
	for lo := int64(-4); lo <= 4; lo++ {
		for hi := lo; hi <= 4; hi++ {
			s := newSheet(t, 0)
			checkBound(t, s, api.OK, "A1", lo, hi)
			for number := int64(-6); number <= 6; number++ {
				digits := strconv.FormatInt(number, 10)
				checkAllows(t, s, digits, lo <= number && number <= hi)
				checkAllows(t, s, " "+strings.Replace(digits, "-", "- 00", 1)+" ", lo <= number && number <= hi)
			}
			checkAllows(t, s, "-0", lo <= 0 && 0 <= hi)
		}
	}
}

func TestBoundAtTheGreatestNumbers(t *testing.T) {
	const greatest, negated = "9223372036854775807", "-9223372036854775807"
	for _, c := range []struct {
		lo, hi int64
		text   string
		want   bool
	}{
		{math.MinInt64, math.MaxInt64, greatest, true}, {math.MinInt64, math.MaxInt64, negated, true},
		{math.MaxInt64, math.MaxInt64, greatest, true}, {math.MaxInt64, math.MaxInt64, "9223372036854775806", false},
		{math.MaxInt64, math.MaxInt64, negated, false}, {math.MinInt64, math.MaxInt64 - 1, greatest, false},
		{math.MinInt64, math.MaxInt64 - 1, "9223372036854775806", true}, {-math.MaxInt64, math.MaxInt64, negated, true},
		{-math.MaxInt64 + 1, math.MaxInt64, negated, false}, {-math.MaxInt64 + 1, math.MaxInt64, "-9223372036854775806", true},
		{math.MinInt64, math.MinInt64, negated, false}, {math.MinInt64, math.MinInt64, "0", false}, {math.MinInt64, -math.MaxInt64, negated, true},
		{math.MinInt64, -math.MaxInt64, "-9223372036854775806", false},
	} {
		s := newSheet(t, 0)
		checkBound(t, s, api.OK, "A1", c.lo, c.hi)
		checkAllows(t, s, c.text, c.want)
	}
}

func TestBoundRefusesNothingButNumbersAlone(t *testing.T) {
	s := newSheet(t, 0)
	checkBound(t, s, api.OK, "A1", -3, 7)
	for _, text := range []string{
		"", "(8)", "-(8)", "(-8)", "--8", "---8", "8 + 0", "8 - 0", "-8 - 0", "0 - 8", "8 * 1", "8 / 1", "8 = 8", "8 < 8", `"8"`, `""`, "true", "false", "A1",
		"-A1", "B2", "if(true, 8, 8)", `at("8")`, "bad(8)", "sum(A1:A2)", "count(A1:A2)",
	} {
		checkAllows(t, s, text, true)
	}
}

func TestBoundHoldsForItsCellAlone(t *testing.T) {
	for _, bounded := range cellNames() {
		s := newSheet(t, 0)
		checkBound(t, s, api.OK, bounded, 1, 2)
		for _, cell := range cellNames() {
			if cell == bounded {
				checkEdit(t, s, api.ErrRule, 0, 0, api.Edit{Cell: cell, Text: "3"})
				checkFormula(t, s, cell, "")
				continue
			}
			checkEdit(t, s, api.OK, 0, 0, api.Edit{Cell: cell, Text: "3"})
			checkFormula(t, s, cell, "3")
		}
	}
}

func TestBoundLeavesWhatStandsThere(t *testing.T) {
	s := newSheet(t, 0)
	checkEdit(t, s, api.OK, 0, 0, api.Edit{Cell: "A1", Text: "5"})
	checkBound(t, s, api.OK, "A1", 9, 9)
	checkFormula(t, s, "A1", "5")
	checkEdit(t, s, api.ErrRule, 0, 0, api.Edit{Cell: "A1", Text: "5"})
	checkFormula(t, s, "A1", "5")
	checkEdit(t, s, api.OK, 0, 0, api.Edit{Cell: "A1", Text: "9"})
	checkFormula(t, s, "A1", "9")
}

func TestNewBoundTakesThePlaceOfTheOld(t *testing.T) {
	s := newSheet(t, 0)
	checkBound(t, s, api.OK, "A1", 1, 3)
	checkAllows(t, s, "5", false)
	checkBound(t, s, api.OK, "A1", 4, 6)
	checkAllows(t, s, "2", false)
	checkAllows(t, s, "5", true)
	checkBound(t, s, api.OK, "A1", 5, 5)
	checkAllows(t, s, "4", false)
	checkBound(t, s, api.OK, "A1", math.MinInt64, math.MaxInt64)
	checkAllows(t, s, "-9223372036854775807", true)
}

func TestBoundStaysWhenTheFormulaGoes(t *testing.T) {
	s := newSheet(t, 0)
	checkBound(t, s, api.OK, "A1", 1, 1)
	checkEdit(t, s, api.OK, 0, 0, api.Edit{Cell: "A1", Text: "1"}, api.Edit{Cell: "A1"})
	checkEdit(t, s, api.ErrRule, 1, 0, api.Edit{Cell: "A1"}, api.Edit{Cell: "A1", Text: "2"})
	checkOnly(t, s, nil)
}

func TestWrongBounds(t *testing.T) {
	s := newSheet(t, 0)
	checkBound(t, s, api.OK, "A1", 2, 3)
	for _, c := range [][2]int64{{1, 0}, {0, -1}, {3, 2}, {math.MaxInt64, math.MinInt64}, {math.MinInt64 + 1, math.MinInt64}, {math.MaxInt64, math.MaxInt64 - 1}} {
		checkBound(t, s, api.ErrRange, "A1", c[0], c[1])
		for _, cell := range append(noCells(), strings.Repeat("A1", 100000)) {
			checkBound(t, s, api.ErrCell, cell, c[0], c[1])
			checkBound(t, s, api.ErrCell, cell, c[1], c[0])
		}
		checkAllows(t, s, "1", false)
		checkAllows(t, s, "2", true)
		checkAllows(t, s, "3", true)
		checkAllows(t, s, "4", false)
	}
	for _, cell := range cellNames()[1:] {
		checkEdit(t, s, api.OK, 0, 0, api.Edit{Cell: cell, Text: "9223372036854775807"})
		checkEdit(t, s, api.OK, 0, 0, api.Edit{Cell: cell, Text: "-9223372036854775807"})
	}
}
