package machine

import (
	"slices"
	"testing"

	"sheets/api"
	"sheets/cells"
	"sheets/values"
)

// worths is what the cells are worth in these tests: A1 7, B1 "C1", C1 true, D1 an Error, E1 nothing, and all others nothing.
func worths(cell int) api.Value {
	switch cells.Name(cell) {
	case "A1":
		return values.Int(7)
	case "B1":
		return values.Text("C1")
	case "C1":
		return values.Bool(true)
	case "D1":
		return values.Error(api.Ref)
	}
	return api.Value{}
}

// finish takes a machine to its end, and tells what it is worth and which cells it read on the way.
func finish(m *Machine) (api.Value, []string) {
	var reads []string
	for m.Run() == Reading {
		need := m.Need()
		reads = append(reads, cells.Name(need.Cell))
		m.Give(worths(need.Cell))
	}
	return m.Worth(), reads
}

type run struct {
	formula string
	worth   api.Value
	reads   []string
}

func runs() []run {
	return []run{
		{"1 + 2", values.Int(3), nil},
		{"A1 - E1 * A1", values.Int(7), []string{"A1", "E1", "A1"}},
		{"-A1", values.Int(-7), []string{"A1"}},
		{"D1 + A1", values.Error(api.Ref), []string{"D1"}},
		{"A1 + D1 + E1", values.Error(api.Ref), []string{"A1", "D1"}},
		{"C1 + A1 + E1", values.Error(api.Type), []string{"C1", "A1"}},
		{"if(C1, A1, E1)", values.Int(7), []string{"C1", "A1"}},
		{"if(C1 = false, A1, E1)", values.Int(0), []string{"C1", "E1"}},
		{"if(A1, B1, E1)", values.Error(api.Type), []string{"A1"}},
		{"at(B1)", values.Bool(true), []string{"B1", "C1"}},
		{"at(A1) + E1", values.Error(api.Type), []string{"A1"}},
		{`at("A9") + E1`, values.Error(api.Ref), nil},
		{"bad(D1 + A1)", values.Bool(true), []string{"D1"}},
		{"bad(A1)", values.Bool(false), []string{"A1"}},
		{"if(bad(1 + (2 - D1)), A1, E1) + 1", values.Int(8), []string{"D1", "A1"}},
		{"5 - if(bad(A1) = bad(bad(D1)), A1, E1)", values.Int(-2), []string{"A1", "D1", "A1"}},
		{"sum(A1:E1)", values.Error(api.Type), []string{"A1", "B1"}},
		{"sum(D1:E1)", values.Error(api.Ref), []string{"D1"}},
		{"sum(E1:F2) + A1", values.Int(7), []string{"E1", "F1", "E2", "F2", "A1"}},
		{"count(A1:C1)", values.Int(1), []string{"A1", "B1", "C1"}},
		{"count(A1:E1)", values.Error(api.Ref), []string{"A1", "B1", "C1", "D1"}},
		{"count(E1:F2)", values.Int(0), []string{"E1", "F1", "E2", "F2"}},
	}
}

func TestWorthAndReads(t *testing.T) {
	for _, c := range runs() {
		m := New(c.formula)
		if worth, reads := finish(&m); worth != c.worth || !slices.Equal(reads, c.reads) {
			t.Errorf("%s is worth %v and reads %v, want %v and %v", c.formula, worth, reads, c.worth, c.reads)
		}
		if state := m.Run(); state != Done || m.Worth() != c.worth {
			t.Errorf("%s: when it is done, Run tells %d and Worth %v", c.formula, state, m.Worth())
		}
	}
}

// TestMachinesAreLeftAndTakenUp goes from one machine to the next at every read, and all end as if each were alone.
func TestMachinesAreLeftAndTakenUp(t *testing.T) {
	all := make([]Machine, len(runs()))
	for i, c := range runs() {
		all[i] = New(c.formula)
	}
	for reading := true; reading; {
		reading = false
		for i := range all {
			if all[i].Run() == Reading && all[i].Run() == Reading {
				all[i].Give(worths(all[i].Need().Cell))
				reading = true
			}
		}
	}
	for i, c := range runs() {
		if worth := all[i].Worth(); worth != c.worth {
			t.Errorf("%s is worth %v, want %v", c.formula, worth, c.worth)
		}
	}
}

func TestOnlyCountTellsNoFormulaFromNought(t *testing.T) {
	for formula, apart := range map[string]bool{"A1": false, `at("A1")`: false, "sum(A1:A1)": false, "count(A1:A1)": true} {
		m := New(formula)
		if m.Run() != Reading || m.Need() != (Need{Apart: apart}) {
			t.Errorf("%s needs %v", formula, m.Need())
		}
		seen := m.Need().See(api.Value{})
		if apart && seen != (api.Value{}) || !apart && seen != values.Int(0) {
			t.Errorf("%s sees %v in a cell without a formula", formula, seen)
		}
		if seen := m.Need().See(values.Text("")); seen != values.Text("") {
			t.Errorf("%s sees %v in a cell with an empty text", formula, seen)
		}
	}
}
