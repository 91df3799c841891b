// Package work works a sheet out anew, by any order and way.
package work

import (
	"sheets/answers"
	"sheets/api"
	"sheets/cells"
	"sheets/values"
)

// Kept is what a sheet keeps from one Work to the next.
type Kept struct {
	last  [cells.Total]answers.Answer // what came of each cell at the last Work
	chain [cells.Total]int            // the cells, as the order Chain goes along them
	store answers.Store
}

// NewKept is of an empty sheet that is worked out; its store has so many places.
func NewKept(places int) Kept {
	k := Kept{store: answers.NewStore(places)}
	for at := range k.chain {
		k.chain[at] = at
	}
	return k
}

// Value tells what a cell was worth at the last Work.
func (k *Kept) Value(cell int) api.Value {
	return k.last[cell].Value
}

// Work works out what the cells are worth by these formulas (in plain form, the empty text where there is none). It tells
// the names of the cells that it began.
func (k *Kept) Work(formulas [cells.Total]string, order, way int) []string {
	if k.worked(formulas) {
		return nil
	}
	r := newRound(formulas, k.last, &k.store, way)
	switch order {
	case api.Chain:
		r.alongChain(&k.chain)
	case api.Restart:
		r.restart()
	default:
		r.suspend()
	}
	for cell, task := range r.tasks {
		k.last[cell] = task.answer
	}
	return r.begun
}

// worked: by the same formulas the same comes out, also for cells that hang on themselves.
func (k *Kept) worked(formulas [cells.Total]string) bool {
	for cell, formula := range formulas {
		if k.last[cell].Formula != formula {
			return false
		}
	}
	return true
}

func cycle() api.Value {
	return values.Error(api.Cycle)
}
