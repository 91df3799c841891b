// Package cells knows the cells of the sheet by their names.
package cells

import "sheets/api"

// Total is how many cells the sheet has.
const Total = api.Columns * api.Rows

// Number tells a cell's number in the order of cells, from 0 on; false, if the sheet has no cell of that name.
func Number(name string) (int, bool) {
	if len(name) != 2 {
		return 0, false
	}
	column, row := int(name[0])-'A', int(name[1])-'1'
	if column < 0 || column >= api.Columns || row < 0 || row >= api.Rows {
		return 0, false
	}
	return row*api.Columns + column, true
}

// Name tells the name of the cell of that number.
func Name(number int) string {
	return string([]byte{'A' + byte(number%api.Columns), '1' + byte(number/api.Columns)})
}

// Range tells the numbers of the cells from an upper left to a lower right corner, in the order of cells; none, if the
// two are no such corners.
func Range(first, last string) []int {
	from, known := Number(first)
	if !known {
		return nil
	}
	to, known := Number(last)
	if !known {
		return nil
	}
	var list []int
	for row := from / api.Columns; row <= to/api.Columns; row++ {
		for column := from % api.Columns; column <= to%api.Columns; column++ {
			list = append(list, row*api.Columns+column)
		}
	}
	return list
}

// Area tells how many cells stand from an upper left to a lower right corner; 0, if the two are no such corners.
func Area(first, last string) int {
	return len(Range(first, last))
}
