package sheets_test

import (
	"math"
	"testing"

	"sheets/api"
	"sheets/sheets"
)

// cellNames has the cells in their order.
func cellNames() []string {
	var all []string
	for row := 1; row <= api.Rows; row++ {
		for column := range api.Columns {
			all = append(all, cellName(column, row))
		}
	}
	return all
}

// noCells has texts that name no cell.
func noCells() []string {
	return []string{"", " ", "A", "1", "A0", "A9", "G1", "Z1", "@1", "a1", "f8", "A01", "A10", "A11", "A1 ", " A1", "1A", "11", "AA", "é", "\xff\xff", "A\x00", "\"A1\""}
}

func newSheet(t *testing.T, store int) *sheets.Sheet {
	t.Helper()
	s, fault := sheets.New(store)
	if s == nil || fault != api.OK {
		t.Fatalf("P4: New(%d) = %v, %d, want a sheet, OK", store, s, fault)
	}
	return s
}

func TestNewTakesEveryStoreThereMayBe(t *testing.T) {
	for store := range api.MaxStore + 1 {
		s := newSheet(t, store)
		for _, cell := range cellNames() {
			checkFormula(t, s, cell, "")
		}
	}
}

func TestNewRefusesOtherStores(t *testing.T) {
	for _, store := range []int{-1, -2, -64, api.MaxStore + 1, api.MaxStore + 2, 128, 256, 1 << 32, 1<<32 + 1, math.MaxInt, math.MinInt, math.MinInt + 1} {
		if s, fault := sheets.New(store); s != nil || fault != api.ErrRange {
			t.Errorf("P4: New(%d) = %v, %d, want nil, ErrRange", store, s, fault)
		}
	}
}

func TestNewSheetIsWorkedOut(t *testing.T) {
	for order := api.Chain; order <= api.Suspend; order++ {
		for way := api.Dirty; way <= api.Recall; way++ {
			s := newSheet(t, 1)
			checkWorthNothing(t, s)
			if report, fault := s.Work(order, way); len(report.Begun) != 0 || fault != api.OK {
				t.Errorf("P4: Work(%d, %d) of a new sheet = %v, %d, want none, OK", order, way, report, fault)
			}
			checkWorthNothing(t, s)
		}
	}
}

func checkWorthNothing(t *testing.T, s *sheets.Sheet) {
	t.Helper()
	for _, cell := range cellNames() {
		if value, fault := s.Value(cell); value != (api.Value{}) || fault != api.OK {
			t.Errorf("P4: Value(%s) of a new sheet = %v, %d, want None, OK", cell, value, fault)
		}
	}
	if text := s.Show(); text != "" {
		t.Errorf("P4: Show of a new sheet = %q, want an empty text", text)
	}
}

func TestNewSheetRefusesNoNumber(t *testing.T) {
	s := newSheet(t, 0)
	for _, cell := range cellNames() {
		for _, number := range []string{"0", "-0", "1", "-1", "9223372036854775807", "-9223372036854775807"} {
			checkEdit(t, s, api.OK, 0, 0, api.Edit{Cell: cell, Text: number})
			checkFormula(t, s, cell, number)
		}
	}
}
