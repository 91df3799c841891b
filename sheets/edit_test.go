package sheets_test

import (
	"strings"
	"testing"

	"sheets/api"
	"sheets/sheets"
)

func checkEdit(t *testing.T, s *sheets.Sheet, want api.Errno, number, place int, batch ...api.Edit) {
	t.Helper()
	if fault, i, at := s.Edit(batch); fault != want || i != number || at != place {
		t.Errorf("P5: Edit(%.200q) = %d, %d, %d, want %d, %d, %d", batch, fault, i, at, want, number, place)
	}
}

func checkFormula(t *testing.T, s *sheets.Sheet, cell, want string) {
	t.Helper()
	if text, fault := s.Formula(cell); text != want || fault != api.OK {
		t.Errorf("P5: Formula(%s) = %q, %d, want %q, OK", cell, text, fault, want)
	}
}

// checkOnly: the sheet has these formulas and no other.
func checkOnly(t *testing.T, s *sheets.Sheet, want map[string]string) {
	t.Helper()
	for _, cell := range cellNames() {
		checkFormula(t, s, cell, want[cell])
	}
}

func TestFormulaTellsThePlainForm(t *testing.T) {
	for _, c := range [][2]string{
		{`1+02*-A1`, `1 + 2 * -A1`}, {`if(A1<3,"x y",at("B"&"2"))`, `if(A1 < 3, "x y", at("B" & "2"))`}, {` 007 `, `7`}, {`- 7`, `-7`}, {`((1))`, `((1))`},
		{`sum ( A1 : B2 )`, `sum(A1:B2)`}, {`"  a"`, `"  a"`}, {`""`, `""`}, {`B1`, `B1`}, {`A1`, `A1`}, {`1/0`, `1 / 0`}, {`at("G9")`, `at("G9")`},
	} {
		s := newSheet(t, 0)
		checkEdit(t, s, api.OK, 0, 0, api.Edit{Cell: "A1", Text: c[0]})
		checkOnly(t, s, map[string]string{"A1": c[1]})
	}
}

func TestFormulaMayBeLongerThanItsText(t *testing.T) {
	s := newSheet(t, 0)
	text := strings.Repeat("1+", 59) + "11"
	checkEdit(t, s, api.OK, 0, 0, api.Edit{Cell: "A1", Text: text})
	checkFormula(t, s, "A1", strings.Repeat("1 + ", 59)+"11")
}

func TestEveryCellHasItsOwnFormula(t *testing.T) {
	s := newSheet(t, api.MaxStore)
	want := map[string]string{}
	for _, cell := range cellNames() {
		checkEdit(t, s, api.OK, 0, 0, api.Edit{Cell: cell, Text: `"` + cell + `"&` + cell})
		want[cell] = `"` + cell + `" & ` + cell
		checkOnly(t, s, want)
	}
	for _, cell := range cellNames() {
		checkEdit(t, s, api.OK, 0, 0, api.Edit{Cell: cell})
		delete(want, cell)
		checkOnly(t, s, want)
	}
}

func TestFormulaOfNoCell(t *testing.T) {
	s := newSheet(t, 0)
	checkEdit(t, s, api.OK, 0, 0, api.Edit{Cell: "A1", Text: "1"})
	for _, cell := range append(noCells(), strings.Repeat("A1", 100000)) {
		if text, fault := s.Formula(cell); text != "" || fault != api.ErrCell {
			t.Errorf("P5: Formula(%.20q) = %q, %d, want an empty text, ErrCell", cell, text, fault)
		}
	}
}

func TestEmptyBatch(t *testing.T) {
	s := newSheet(t, 0)
	checkEdit(t, s, api.OK, 0, 0, api.Edit{Cell: "A1", Text: "1"})
	for _, batch := range [][]api.Edit{nil, {}} {
		checkEdit(t, s, api.OK, 0, 0, batch...)
		checkOnly(t, s, map[string]string{"A1": "1"})
	}
}

func TestEmptyTextTakesTheFormulaAway(t *testing.T) {
	s := newSheet(t, 0)
	checkEdit(t, s, api.OK, 0, 0, api.Edit{Cell: "A1"}, api.Edit{Cell: "F8", Text: ""})
	checkOnly(t, s, nil)
	checkEdit(t, s, api.OK, 0, 0, api.Edit{Cell: "A1", Text: "1"}, api.Edit{Cell: "F8", Text: "A1"})
	checkEdit(t, s, api.OK, 0, 0, api.Edit{Cell: "A1"})
	checkOnly(t, s, map[string]string{"F8": "A1"})
	checkEdit(t, s, api.ErrSyntax, 0, 1, api.Edit{Cell: "F8", Text: " "})
	checkOnly(t, s, map[string]string{"F8": "A1"})
	checkEdit(t, s, api.OK, 0, 0, api.Edit{Cell: "A1", Text: `""`})
	checkOnly(t, s, map[string]string{"A1": `""`, "F8": "A1"})
}

func TestLastOfSeveralEditsOfACellStays(t *testing.T) {
	s := newSheet(t, 0)
	checkEdit(t, s, api.OK, 0, 0, api.Edit{Cell: "A1", Text: "1"}, api.Edit{Cell: "B1", Text: "A1"}, api.Edit{Cell: "A1", Text: "2"})
	checkOnly(t, s, map[string]string{"A1": "2", "B1": "A1"})
	checkEdit(t, s, api.OK, 0, 0, api.Edit{Cell: "A1", Text: "3"}, api.Edit{Cell: "A1"})
	checkOnly(t, s, map[string]string{"B1": "A1"})
	checkEdit(t, s, api.OK, 0, 0, api.Edit{Cell: "B1"}, api.Edit{Cell: "A1"}, api.Edit{Cell: "A1", Text: "4"}, api.Edit{Cell: "B1", Text: "5"})
	checkOnly(t, s, map[string]string{"A1": "4", "B1": "5"})
}

func TestMaxBatch(t *testing.T) {
	batch := make([]api.Edit, 100)
	for i := range batch {
		batch[i] = api.Edit{Cell: cellNames()[i%48], Text: "7"}
	}
	for size := range len(batch) + 1 {
		s := newSheet(t, 0)
		if size > api.MaxBatch {
			checkEdit(t, s, api.ErrLong, 0, 0, batch[:size]...)
			checkOnly(t, s, nil)
			continue
		}
		checkEdit(t, s, api.OK, 0, 0, batch[:size]...)
		for i, cell := range cellNames() {
			want := ""
			if i < size {
				want = "7"
			}
			checkFormula(t, s, cell, want)
		}
	}
}

func TestMaxBatchIsSaidAheadOfTheEdits(t *testing.T) {
	s := newSheet(t, 0)
	s.Bound("A1", 1, 1)
	for _, edit := range []api.Edit{{}, {Cell: "A9", Text: "1"}, {Cell: "A1", Text: "?"}, {Cell: "A1", Text: "2"}, {Cell: "A1", Text: strings.Repeat("1", 200)}} {
		batch := make([]api.Edit, api.MaxBatch+1)
		for i := range batch {
			batch[i] = edit
		}
		checkEdit(t, s, api.ErrLong, 0, 0, batch...)
	}
	checkOnly(t, s, nil)
	checkEdit(t, s, api.ErrLong, 0, 0, make([]api.Edit, 100000)...)
}

func TestEditOfNoCell(t *testing.T) {
	for _, cell := range append(noCells(), strings.Repeat("A1", 100000)) {
		for _, text := range []string{"", "1", "?", "1 +", "1 + G1", strings.Repeat("1", 200)} {
			s := newSheet(t, 0)
			checkEdit(t, s, api.ErrCell, 0, 0, api.Edit{Cell: cell, Text: text})
			checkEdit(t, s, api.ErrCell, 1, 0, api.Edit{Cell: "A1", Text: "1"}, api.Edit{Cell: cell, Text: text})
			checkOnly(t, s, nil)
		}
	}
}

type wrongEdit struct {
	edit  api.Edit
	fault api.Errno
	place int
}

// wrongEdits has edits that may not be, on a sheet where A1 may have the numbers -3 to 7.
func wrongEdits() []wrongEdit {
	return []wrongEdit{
		{api.Edit{Cell: "A9", Text: "1"}, api.ErrCell, 0},
		{api.Edit{}, api.ErrCell, 0},
		{api.Edit{Cell: "A1", Text: strings.Repeat(" ", api.MaxText) + "1"}, api.ErrLong, 0},
		{api.Edit{Cell: "A1", Text: strings.Repeat("?", api.MaxText+1)}, api.ErrLong, 0},
		{api.Edit{Cell: "A1", Text: "1 + ?"}, api.ErrToken, 4},
		{api.Edit{Cell: "A1", Text: "8?"}, api.ErrToken, 1},
		{api.Edit{Cell: "A1", Text: "9223372036854775808"}, api.ErrToken, 0},
		{api.Edit{Cell: "A1", Text: "-9223372036854775808"}, api.ErrToken, 1},
		{api.Edit{Cell: "A1", Text: `1 & "x`}, api.ErrToken, 4},
		{api.Edit{Cell: "A1", Text: " "}, api.ErrSyntax, 1},
		{api.Edit{Cell: "A1", Text: "8 8"}, api.ErrSyntax, 2},
		{api.Edit{Cell: "A1", Text: "1 + "}, api.ErrSyntax, 4},
		{api.Edit{Cell: "A1", Text: "-"}, api.ErrSyntax, 1},
		{api.Edit{Cell: "A1", Text: "1 + G1"}, api.ErrCell, 4},
		{api.Edit{Cell: "A1", Text: "8 * sum(B2:A1)"}, api.ErrCell, 8},
		{api.Edit{Cell: "A1", Text: "8"}, api.ErrRule, 0},
		{api.Edit{Cell: "A1", Text: "  -4"}, api.ErrRule, 0},
	}
}

func TestFirstEditThatMayNotBe(t *testing.T) {
	for _, first := range wrongEdits() {
		for _, second := range wrongEdits() {
			for number := range api.MaxBatch {
				batch := make([]api.Edit, api.MaxBatch)
				for i := range batch {
					batch[i] = api.Edit{Cell: "B1", Text: "5"}
				}
				batch[api.MaxBatch-1] = second.edit
				batch[number] = first.edit
				s := newSheet(t, 0)
				s.Bound("A1", -3, 7)
				checkEdit(t, s, api.OK, 0, 0, api.Edit{Cell: "A1", Text: "1"}, api.Edit{Cell: "C1", Text: "2"})
				checkEdit(t, s, first.fault, number, first.place, batch...)
				checkOnly(t, s, map[string]string{"A1": "1", "C1": "2"})
			}
		}
	}
}

func TestBatchIsDoneWholeOrNotAtAll(t *testing.T) {
	for _, wrong := range wrongEdits() {
		s := newSheet(t, 0)
		s.Bound("A1", -3, 7)
		checkEdit(t, s, api.OK, 0, 0, api.Edit{Cell: "A1", Text: "1"}, api.Edit{Cell: "C1", Text: "2"})
		checkEdit(t, s, wrong.fault, 3, wrong.place,
			api.Edit{Cell: "A1", Text: "3"}, api.Edit{Cell: "C1"}, api.Edit{Cell: "D1", Text: "4"}, wrong.edit, api.Edit{Cell: "E1", Text: "5"})
		checkOnly(t, s, map[string]string{"A1": "1", "C1": "2"})
		checkEdit(t, s, api.OK, 0, 0, api.Edit{Cell: "A1", Text: "3"}, api.Edit{Cell: "C1"}, api.Edit{Cell: "D1", Text: "4"})
		checkOnly(t, s, map[string]string{"A1": "3", "D1": "4"})
	}
}

func TestWrongEditMattersThoughALaterOneTakesItsPlace(t *testing.T) {
	s := newSheet(t, 0)
	s.Bound("A1", 1, 1)
	for _, text := range []string{"1", "", "A1"} {
		checkEdit(t, s, api.ErrRule, 0, 0, api.Edit{Cell: "A1", Text: "2"}, api.Edit{Cell: "A1", Text: text})
		checkEdit(t, s, api.ErrSyntax, 0, 2, api.Edit{Cell: "A1", Text: "1+"}, api.Edit{Cell: "A1", Text: text})
		checkOnly(t, s, nil)
	}
}

func TestEditSaysWhatPlainSays(t *testing.T) {
	s := newSheet(t, 0)
	for _, formula := range formulas() {
		for at := range formula {
			for _, text := range []string{formula[:at+1], formula[at:], formula[:at] + "?" + formula[at:], formula[:at] + "-" + formula[at:], formula[:at] + formula[at+1:]} {
				if text == "" {
					continue
				}
				checkEdit(t, s, api.OK, 0, 0, api.Edit{Cell: "C3", Text: "3"})
				plain, want, place := sheets.Plain(text)
				if want != api.OK {
					checkEdit(t, s, want, 1, place, api.Edit{Cell: "A1", Text: "1"}, api.Edit{Cell: "C3", Text: text})
					checkOnly(t, s, map[string]string{"C3": "3"})
					continue
				}
				checkEdit(t, s, api.OK, 0, 0, api.Edit{Cell: "A1"}, api.Edit{Cell: "C3", Text: text})
				checkOnly(t, s, map[string]string{"C3": plain})
			}
		}
	}
}
