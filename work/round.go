package work

import (
	"sheets/answers"
	"sheets/api"
	"sheets/cells"
	"sheets/machine"
)

// state tells how far a cell is.
type state int

const (
	fresh   state = iota // its turn is yet to come
	trying               // answers that are known are held against what the cells are worth now
	begun                // its machine goes, or reads
	settled              // what it is worth is found
)

// nobody is what a cell waits for that does not wait.
const nobody = -1

// task is what is done for one cell while the sheet is worked out.
type task struct {
	state   state
	waits   int              // for that cell
	known   []answers.Answer // while it tries: those that may hold, the first of them next
	held    int              // how many reads of the first of them do
	machine machine.Machine  // when it is begun
	answer  answers.Answer   // when it is begun: what it read so far; when it is settled: all that came of it
}

// round is one working out of the sheet.
type round struct {
	formulas [cells.Total]string
	last     [cells.Total]answers.Answer
	store    *answers.Store
	way      int
	tasks    [cells.Total]task
	begun    []string
}

func newRound(formulas [cells.Total]string, last [cells.Total]answers.Answer, store *answers.Store, way int) *round {
	r := &round{formulas: formulas, last: last, store: store, way: way}
	for cell, formula := range formulas {
		r.tasks[cell].waits = nobody
		if formula == "" {
			r.settle(cell, answers.Answer{})
		}
	}
	if way == api.Dirty {
		r.settleClean()
	}
	return r
}

// turn takes a cell as far as it goes. It tells true when the cell is settled; else which cell it waits for.
func (r *round) turn(cell int) (int, bool) {
	t := &r.tasks[cell]
	switch t.state {
	case fresh:
		t.known = append(t.known, r.known(cell)...)
		t.state = trying
		fallthrough
	case trying:
		if !r.try(cell) {
			return t.waits, false
		}
		if t.state == settled {
			return nobody, true
		}
		r.begin(cell)
		fallthrough
	case begun:
		r.run(cell)
	}
	return t.waits, t.state == settled
}

// try settles a cell by the first answer of which all reads hold. It tells false if the cell must wait to know.
//
// A formula reads its first cell always, and the next one whenever those ahead of it are worth the same: so a cell that is
// looked at here is one that the formula does read now.
func (r *round) try(cell int) bool {
	t := &r.tasks[cell]
next:
	if len(t.known) == 0 {
		return true
	}
	for t.held < len(t.known[0].Reads) {
		read := t.known[0].Reads[t.held]
		value, there := r.look(cell, read.Cell)
		if !there {
			return false
		}
		if !read.Holds(value) {
			t.known, t.held = t.known[1:], 0
			goto next
		}
		t.held++
	}
	r.settle(cell, t.known[0])
	return true
}

func (r *round) begin(cell int) {
	r.begun = append(r.begun, cells.Name(cell))
	t := &r.tasks[cell]
	t.state = begun
	t.machine = machine.New(r.formulas[cell])
	t.answer = answers.Answer{Formula: r.formulas[cell]}
}

// run goes on with a cell that is begun till it is settled or must wait.
func (r *round) run(cell int) {
	t := &r.tasks[cell]
	for t.machine.Run() == machine.Reading {
		need := t.machine.Need()
		value, there := r.look(cell, need.Cell)
		if !there {
			return
		}
		if value == cycle() {
			// No `bad` helps there, and what was read is of no use: such an answer is not kept.
			r.settle(cell, answers.Answer{Formula: r.formulas[cell], Value: value})
			return
		}
		t.answer.Reads = append(t.answer.Reads, answers.Read{Need: need, Worth: need.See(value)})
		t.machine.Give(value)
	}
	t.answer.Value = t.machine.Worth()
	r.store.Add(t.answer)
	r.settle(cell, t.answer)
}

// leave drops what was begun of a cell that waits: its next turn begins it anew. Answers that it still tries stay, since
// the store had them when its turn came.
func (r *round) leave(cell int) {
	r.tasks[cell].state = fresh
}

// look tells what another cell that this one reads is worth; false, if that is not settled: then this one waits for it.
func (r *round) look(cell, other int) (api.Value, bool) {
	if r.tasks[other].state == settled {
		return r.tasks[other].answer.Value, true
	}
	if r.waitsFor(other, cell) {
		return cycle(), true
	}
	r.tasks[cell].waits = other
	return api.Value{}, false
}

// waitsFor tells whether a cell is another one, or waits for it, be it by way of others.
func (r *round) waitsFor(cell, other int) bool {
	for cell != nobody && cell != other {
		cell = r.tasks[cell].waits
	}
	return cell == other
}

func (r *round) settle(cell int, answer answers.Answer) {
	r.tasks[cell] = task{state: settled, waits: nobody, answer: answer}
}
