package sheets_test

import (
	"slices"
	"strings"
	"testing"

	"sheets/api"
	"sheets/sheets"
)

func everyWay(f func(order, way int)) {
	for order := api.Chain; order <= api.Suspend; order++ {
		for way := api.Dirty; way <= api.Recall; way++ {
			f(order, way)
		}
	}
}

// give does one edit for each text: a cell's name, `=`, and its new formula.
func give(t *testing.T, s *sheets.Sheet, edits ...string) {
	t.Helper()
	for _, edit := range edits {
		cell, text, _ := strings.Cut(edit, "=")
		checkEdit(t, s, api.OK, 0, 0, api.Edit{Cell: cell, Text: text})
	}
}

func given(t *testing.T, store int, edits ...string) *sheets.Sheet {
	t.Helper()
	s := newSheet(t, store)
	give(t, s, edits...)
	return s
}

func work(t *testing.T, s *sheets.Sheet, order, way int) []string {
	t.Helper()
	report, fault := s.Work(order, way)
	if fault != api.OK {
		t.Fatalf("P6: Work(%d, %d): fault %d", order, way, fault)
	}
	return report.Begun
}

// checkWork works the sheet out, and checks which cells are begun, whatever the order and however often.
func checkWork(t *testing.T, s *sheets.Sheet, order, way int, want ...string) {
	t.Helper()
	begun := work(t, s, order, way)
	got := slices.Clone(begun)
	slices.Sort(got)
	if got = slices.Compact(got); !slices.Equal(got, slices.Sorted(slices.Values(want))) {
		t.Errorf("P7: Work(%d, %d) begins %v, want %v", order, way, begun, want)
	}
}

// checkLines checks what Show tells, its lines with blanks between (no value here has a blank in it).
func checkLines(t *testing.T, s *sheets.Sheet, want string) {
	t.Helper()
	if want != "" {
		want = strings.ReplaceAll(want, " ", "\n") + "\n"
	}
	if got := s.Show(); got != want {
		t.Errorf("P8: Show = %q, want %q", got, want)
	}
}

func checkValue(t *testing.T, s *sheets.Sheet, cell string, want api.Value) {
	t.Helper()
	if got, fault := s.Value(cell); got != want || fault != api.OK {
		t.Errorf("P6: Value(%s) = %v, %d, want %v, OK", cell, got, fault, want)
	}
}
