package work

import (
	"sheets/answers"
	"sheets/api"
	"sheets/cells"
)

// stays: the cell has the formula that it had at the last Work, and did not hang on itself then.
func (r *round) stays(cell int) bool {
	return r.last[cell].Formula == r.formulas[cell] && r.last[cell].Value != cycle()
}

// settleClean settles the cells that are not dirty, by what came of them at the last Work.
func (r *round) settleClean() {
	for cell, dirty := range r.dirty() {
		if !dirty {
			r.settle(cell, r.last[cell])
		}
	}
}

// dirty marks the cells that do not stay, and those that read a cell that is marked, till no more are to be marked.
func (r *round) dirty() [cells.Total]bool {
	var marks [cells.Total]bool
	for cell := range marks {
		marks[cell] = !r.stays(cell)
	}
again:
	for cell := range marks {
		if marks[cell] {
			continue
		}
		for _, read := range r.last[cell].Reads {
			if marks[read.Cell] {
				marks[cell] = true
				goto again
			}
		}
	}
	return marks
}

// known tells the answers that may hold for a cell: by the way Verify its own last one, by the way Recall those of the
// store too.
func (r *round) known(cell int) []answers.Answer {
	if r.way == api.Dirty {
		return nil
	}
	var list []answers.Answer
	if r.stays(cell) {
		list = append(list, r.last[cell])
	}
	if r.way == api.Recall {
		list = append(list, r.store.Of(r.formulas[cell])...)
	}
	return list
}
