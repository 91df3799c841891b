// Package machine works one formula out by small steps. It stops where the formula reads a cell; it can be left there and
// taken up again.
package machine

import (
	"sheets/api"
	"sheets/cells"
	"sheets/values"
)

// State tells how far a machine is.
type State int

const (
	Going State = iota
	Reading
	Done
)

// Machine is a formula that is begun. All that it is stands in its fields: nothing runs while it is left.
type Machine struct {
	code   []instruction
	at     int // the number of the next instruction
	state  State
	need   Need        // while it reads
	values []api.Value // of the parts that are worked out and not yet taken
	guards []rescue    // of the `bad` that stand around the next instruction, the innermost last
}

// Need is a cell that a formula reads.
type Need struct {
	Cell  int
	Apart bool // a cell without a formula is not the same to it as one that is worth 0
}

// rescue: where an Error goes, and how many values stood there when the `bad` began.
type rescue struct {
	to, height int
}

// New begins a formula, told in its plain form.
func New(formula string) Machine {
	return Machine{code: compile(formula)}
}

// See tells a cell's value as it is seen by the formula that reads it.
func (n Need) See(value api.Value) api.Value {
	if value.Kind == api.None && !n.Apart {
		return values.Int(0)
	}
	return value
}

// Run goes on till the formula reads a cell, or is done.
func (m *Machine) Run() State {
head:
	if m.state != Going {
		return m.state
	}
	if m.failed() {
		goto escape
	}
	if m.at == len(m.code) {
		m.state = Done
		goto head
	}
	m.step(m.code[m.at])
	goto head

escape:
	if len(m.guards) == 0 {
		m.state = Done
		goto head
	}
	m.rescue()
	goto head
}

// Need tells which cell is read.
func (m *Machine) Need() Need {
	return m.need
}

// Give takes the machine up with the value of the cell that it reads.
func (m *Machine) Give(value api.Value) {
	m.put(m.need.See(value))
	m.state = Going
}

// Worth tells what the formula is worth, when it is done.
func (m *Machine) Worth() api.Value {
	return m.top()
}

// failed: an Error that was put down is found ahead of the next step, so no instruction ever takes one.
func (m *Machine) failed() bool {
	return len(m.values) > 0 && m.top().Kind == api.Error
}

func (m *Machine) rescue() {
	last := len(m.guards) - 1
	m.at, m.values = m.guards[last].to, m.values[:m.guards[last].height]
	m.guards = m.guards[:last]
	m.put(values.Bool(true))
}

func (m *Machine) step(i instruction) {
	m.at++
	switch i.operation {
	case put:
		m.put(i.value)
	case read, readApart:
		m.read(Need{Cell: i.cell, Apart: i.operation == readApart})
	case readNamed:
		m.readNamed()
	case negate:
		m.put(values.Negate(m.take()))
	case tally:
		m.tally()
	case choose:
		m.choose(i.to)
	case jump:
		m.at = i.to
	case guard:
		m.guards = append(m.guards, rescue{to: i.to, height: len(m.values)})
	case unguard:
		m.guards = m.guards[:len(m.guards)-1]
		m.take()
		m.put(values.Bool(false))
	default:
		second := m.take()
		m.put(combine(i.operation, m.take(), second))
	}
}

func (m *Machine) read(need Need) {
	m.need, m.state = need, Reading
}

func (m *Machine) readNamed() {
	name := m.take()
	if name.Kind != api.Text {
		m.put(values.Error(api.Type))
		return
	}
	cell, known := cells.Number(name.S)
	if !known {
		m.put(values.Error(api.Ref))
		return
	}
	m.read(Need{Cell: cell})
}

func (m *Machine) tally() {
	if m.take().Kind == api.Int {
		m.put(values.Add(m.take(), values.Int(1)))
	}
}

func (m *Machine) choose(to int) {
	choice := m.take()
	switch {
	case choice.Kind != api.Bool:
		m.put(values.Error(api.Type))
	case choice.N == 0:
		m.at = to
	}
}

func combine(sign operation, first, second api.Value) api.Value {
	switch sign {
	case add:
		return values.Add(first, second)
	case subtract:
		return values.Subtract(first, second)
	case multiply:
		return values.Multiply(first, second)
	case divide:
		return values.Divide(first, second)
	case join:
		return values.Join(first, second)
	case equal:
		return values.Equal(first, second)
	}
	return values.Less(first, second)
}

func (m *Machine) put(value api.Value) {
	m.values = append(m.values, value)
}

func (m *Machine) top() api.Value {
	return m.values[len(m.values)-1]
}

func (m *Machine) take() api.Value {
	value := m.top()
	m.values = m.values[:len(m.values)-1]
	return value
}
