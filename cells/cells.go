// Package cells knows the cells of the sheet by their names.
package cells

import "sheets/api"

// Total is how many cells the sheet has.
const Total = api.Columns * api.Rows

// Number tells a cell's number in the order of cells, from 0 on; false, if the sheet has no cell of that name.
func Number(name string) (int, bool) {
	if len(name) != 2 {
		return 0, false
	}
	column, row := int(name[0])-'A', int(name[1])-'1'
	if column < 0 || column >= api.Columns || row < 0 || row >= api.Rows {
		return 0, false
	}
	return row*api.Columns + column, true
}

// Area tells how many cells stand from an upper left to a lower right corner; 0, if the two are no such corners.
func Area(first, last string) int {
	from, known := Number(first)
	if !known {
		return 0
	}
	to, known := Number(last)
	if !known {
		return 0
	}
	columns := to%api.Columns - from%api.Columns + 1
	rows := to/api.Columns - from/api.Columns + 1
	if columns < 1 || rows < 1 {
		return 0
	}
	return columns * rows
}
