// Package sheets: a spreadsheet that is worked out anew by any order and way: see DOC.md.
package sheets

import (
	"sheets/api"
	"sheets/grammar"
)

// Sheet is a sheet.
type Sheet struct{}

// Plain tells a formula in its plain form (P3).
func Plain(formula string) (string, api.Errno, int) {
	list, fault, place := grammar.Read(formula)
	if fault != api.OK {
		return "", fault, place
	}
	return grammar.Plain(list), api.OK, 0
}

// New makes an empty sheet whose store of answers has so many places (P4).
func New(store int) (*Sheet, api.Errno) { return nil, api.OK }

// Bound says which numbers a cell may have (P5).
func (s *Sheet) Bound(cell string, lo int64, hi int64) api.Errno { return api.OK }

// Edit gives cells new formulas, all of a batch or none (P5).
func (s *Sheet) Edit(batch []api.Edit) (api.Errno, int, int) { return api.OK, 0, 0 }

// Formula tells a cell's formula in its plain form (P5).
func (s *Sheet) Formula(cell string) (string, api.Errno) { return "", api.OK }

// Work works out all that must be, in an order, by a way (P6, P7).
func (s *Sheet) Work(order int, way int) (api.Report, api.Errno) { return api.Report{}, api.OK }

// Value tells what a cell was worth when the sheet was last worked out (P6).
func (s *Sheet) Value(cell string) (api.Value, api.Errno) { return api.Value{}, api.OK }

// Show tells all cells that are worth something (P8).
func (s *Sheet) Show() string { return "" }
