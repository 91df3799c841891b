// Package sheets: a spreadsheet that is worked out anew by any order and way: see DOC.md.
package sheets

import (
	"math"
	"strings"

	"sheets/api"
	"sheets/cells"
	"sheets/grammar"
	"sheets/values"
	"sheets/work"
)

// Sheet is a sheet.
type Sheet struct {
	formulas [cells.Total]string // in plain form; the empty text where there is none
	bounds   [cells.Total]bound
	kept     work.Kept // of the last Work
}

// bound: a cell may have the numbers from lo to hi.
type bound struct {
	lo, hi int64
}

// Plain tells a formula in its plain form (P3).
func Plain(formula string) (string, api.Errno, int) {
	list, fault, place := grammar.Read(formula)
	if fault != api.OK {
		return "", fault, place
	}
	return grammar.Plain(list), api.OK, 0
}

// New makes an empty sheet whose store of answers has so many places (P4).
func New(store int) (*Sheet, api.Errno) {
	if store < 0 || store > api.MaxStore {
		return nil, api.ErrRange
	}
	s := &Sheet{kept: work.NewKept(store)}
	for cell := range s.bounds {
		// These bounds refuse no number, so that a cell of which no Bound spoke needs no mark of its own.
		s.bounds[cell] = bound{lo: math.MinInt64, hi: math.MaxInt64}
	}
	return s, api.OK
}

// Bound says which numbers a cell may have (P5).
func (s *Sheet) Bound(cell string, lo int64, hi int64) api.Errno {
	number, known := cells.Number(cell)
	if !known {
		return api.ErrCell
	}
	if lo > hi {
		return api.ErrRange
	}
	s.bounds[number] = bound{lo: lo, hi: hi}
	return api.OK
}

// Edit gives cells new formulas, all of a batch or none (P5).
func (s *Sheet) Edit(batch []api.Edit) (api.Errno, int, int) {
	if len(batch) > api.MaxBatch {
		return api.ErrLong, 0, 0
	}
	// The edits are done on a copy, so that one that may not be leaves the sheet as it was.
	edited := s.formulas
	for number, edit := range batch {
		cell, formula, fault, place := s.check(edit)
		if fault != api.OK {
			return fault, number, place
		}
		edited[cell] = formula
	}
	s.formulas = edited
	return api.OK, 0, 0
}

// check tells an edit's cell and the plain form of its formula; or, if it may not be, its fault and the place of that.
func (s *Sheet) check(edit api.Edit) (int, string, api.Errno, int) {
	cell, known := cells.Number(edit.Cell)
	if !known {
		return 0, "", api.ErrCell, 0
	}
	if edit.Text == "" {
		return cell, "", api.OK, 0
	}
	list, fault, place := grammar.Read(edit.Text)
	if fault != api.OK {
		return 0, "", fault, place
	}
	if number, alone := grammar.Number(list); alone && s.bounds[cell].refuses(number) {
		return 0, "", api.ErrRule, 0
	}
	return cell, grammar.Plain(list), api.OK, 0
}

func (b bound) refuses(number int64) bool {
	return number < b.lo || number > b.hi
}

// Formula tells a cell's formula in its plain form (P5).
func (s *Sheet) Formula(cell string) (string, api.Errno) {
	number, known := cells.Number(cell)
	if !known {
		return "", api.ErrCell
	}
	return s.formulas[number], api.OK
}

// Work works out all that must be, in an order, by a way (P6, P7).
func (s *Sheet) Work(order int, way int) (api.Report, api.Errno) {
	if order < api.Chain || order > api.Suspend || way < api.Dirty || way > api.Recall {
		return api.Report{}, api.ErrWay
	}
	return api.Report{Begun: s.kept.Work(s.formulas, order, way)}, api.OK
}

// Value tells what a cell was worth when the sheet was last worked out (P6).
func (s *Sheet) Value(cell string) (api.Value, api.Errno) {
	number, known := cells.Number(cell)
	if !known {
		return api.Value{}, api.ErrCell
	}
	return s.kept.Value(number), api.OK
}

// Show tells all cells that are worth something (P8).
func (s *Sheet) Show() string {
	var text strings.Builder
	for cell := range cells.Total {
		if value := s.kept.Value(cell); value.Kind != api.None {
			text.WriteString(cells.Name(cell) + "=" + values.Show(value) + "\n")
		}
	}
	return text.String()
}
