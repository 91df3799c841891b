// Package answers has what came of formulas that were worked out, and the store of the newest of them.
package answers

import (
	"sheets/api"
	"sheets/machine"
)

// Answer is a formula (in plain form), the cells that it read, in that order, and its value. Its list is never written
// into again: answers may share it.
type Answer struct {
	Formula string
	Reads   []Read
	Value   api.Value
}

// Read is a cell that was read, and what it was seen to be worth.
type Read struct {
	machine.Need
	Worth api.Value
}

// Holds tells whether the cell that was read is now, by its value, what it was then.
func (r Read) Holds(value api.Value) bool {
	return r.See(value) == r.Worth
}

// Store keeps the newest answers, as many as it has places.
type Store struct {
	places int
	size   int // how many are kept
	next   int // the place of the next one: when all are taken, that of the oldest
	kept   [api.MaxStore]Answer
}

// NewStore makes an empty store with so many places, 0 to api.MaxStore.
func NewStore(places int) Store {
	return Store{places: places}
}

// Add takes in a new answer; the oldest one goes, if there is no place left.
func (s *Store) Add(answer Answer) {
	if s.places == 0 {
		return
	}
	s.kept[s.next] = answer
	s.next = (s.next + 1) % s.places
	s.size = min(s.size+1, s.places)
}

// Of tells the answers that are kept of a formula.
func (s *Store) Of(formula string) []Answer {
	var list []Answer
	for _, answer := range s.kept[:s.size] {
		if answer.Formula == formula {
			list = append(list, answer)
		}
	}
	return list
}
