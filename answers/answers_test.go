package answers

import (
	"strconv"
	"testing"

	"sheets/api"
	"sheets/machine"
	"sheets/values"
)

func TestNewestStay(t *testing.T) {
	for places := range api.MaxStore + 1 {
		s := NewStore(places)
		for newest := range 3*api.MaxStore + 1 {
			s.Add(Answer{Formula: strconv.Itoa(newest), Value: values.Int(int64(newest))})
			for old := range newest + 1 {
				list := s.Of(strconv.Itoa(old))
				kept := old > newest-places
				if kept && (len(list) != 1 || list[0].Value != values.Int(int64(old))) || !kept && len(list) != 0 {
					t.Fatalf("with %d places, when %d came, of %d the store has %v", places, newest, old, list)
				}
			}
		}
	}
}

func TestAllAnswersOfAFormula(t *testing.T) {
	s := NewStore(4)
	for i, formula := range []string{"A1", "B1", "A1", "C1", "A1", "A1"} {
		s.Add(Answer{Formula: formula, Value: values.Int(int64(i))})
	}
	sum := int64(0)
	for _, answer := range s.Of("A1") {
		sum += answer.Value.N
	}
	if list := s.Of("A1"); len(list) != 3 || sum != 2+4+5 {
		t.Errorf("Of(A1) = %v", list)
	}
	if list := s.Of("B1"); len(list) != 0 {
		t.Errorf("Of(B1) = %v, want none: it is too old", list)
	}
	if list := s.Of(""); len(list) != 0 {
		t.Errorf("Of no formula = %v, want none", list)
	}
}

func TestHolds(t *testing.T) {
	list := []api.Value{{}, values.Int(0), values.Int(1), values.Bool(false), values.Bool(true), values.Text(""), values.Text("1"), values.Error(api.Over), values.Error(api.Cycle)}
	for i, then := range list {
		for k, now := range list {
			for _, apart := range []bool{false, true} {
				need := machine.Need{Cell: 3, Apart: apart}
				want := i == k || !apart && i < 2 && k < 2
				if got := (Read{Need: need, Worth: need.See(then)}).Holds(now); got != want {
					t.Errorf("what was worth %v is worth %v: holds %v, want %v", then, now, got, want)
				}
			}
		}
	}
}
