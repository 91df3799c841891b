package grammar

import (
	"sheets/api"
	"sheets/cells"
	"sheets/tokens"
)

// checkCells tells the place of the first CELL or range of a formula that the sheet does not have; true, if it has all.
func checkCells(list []tokens.Token) (int, bool) {
	for at := 0; at < len(list); at++ {
		if list[at].Kind != tokens.Cell {
			continue
		}
		if !isRange(list[at:]) {
			if _, known := cells.Number(list[at].Text); !known {
				return list[at].Place, false
			}
			continue
		}
		if area := cells.Area(list[at].Text, list[at+2].Text); area == 0 || area > api.MaxArea {
			return list[at].Place, false
		}
		// The second CELL is a corner of this range: by itself it has no place of its own.
		at += 2
	}
	return 0, true
}

// isRange: in tokens that are a formula, `:` stands behind the first CELL of a range and nowhere else.
func isRange(list []tokens.Token) bool {
	return len(list) > 2 && list[1].Kind == tokens.Colon
}
