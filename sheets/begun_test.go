package sheets_test

import (
	"slices"
	"testing"

	"sheets/api"
	"sheets/sheets"
)

func TestFirstWorkBeginsEveryFormula(t *testing.T) {
	everyWay(func(order, way int) {
		s := given(t, 9, "A1=B1+C1", "B1=C1", "C1=7", "D1=D1", "E8=A1", `F8="x"`)
		checkWork(t, s, order, way, "A1", "B1", "C1", "D1", "E8", "F8")
	})
}

func TestNothingIsBegunWithoutEdits(t *testing.T) {
	everyWay(func(order, way int) {
		s := given(t, 2, "A1=B1+C1", "B1=C1", "C1=7", "D1=D1", "E1=D1", "F1=1/0")
		work(t, s, order, way)
		before := s.Show()
		everyWay(func(order, way int) {
			checkWork(t, s, order, way)
			// None of these does an edit.
			checkEdit(t, s, api.OK, 0, 0)
			checkEdit(t, s, api.ErrSyntax, 1, 2, api.Edit{Cell: "A1", Text: "1"}, api.Edit{Cell: "B1", Text: "1+"})
			checkBound(t, s, api.OK, "C1", 8, 9)
			checkEdit(t, s, api.ErrRule, 1, 0, api.Edit{Cell: "D1", Text: "1"}, api.Edit{Cell: "C1", Text: "7"})
			checkEdit(t, s, api.ErrCell, 0, 0, api.Edit{Cell: "A9"})
			checkFormula(t, s, "C1", "7")
			refuseWork(t, s, 3, way)
			checkWork(t, s, order, way)
		})
		if s.Show() != before {
			t.Errorf("P6: without an edit %q became %q", before, s.Show())
		}
	})
}

func TestBoundsBeginNothing(t *testing.T) {
	s := given(t, 2, "A1=7", "B1=A1")
	work(t, s, api.Suspend, api.Verify)
	checkBound(t, s, api.OK, "A1", 1, 2)
	checkWork(t, s, api.Suspend, api.Dirty)
	checkLines(t, s, "A1=7 B1=7")
}

func TestWhatIsNotTouchedIsNotBegun(t *testing.T) {
	everyWay(func(order, way int) {
		s := given(t, 0, "A1=1", "B1=A1", "C1=B1", "D1=4", "E1=D1", "F1=E1+C1", "A2=A2", "B2=\"x\"")
		work(t, s, order, way)
		give(t, s, "D1=5")
		// A2 hangs on itself: it never stays.
		checkWork(t, s, order, way, "D1", "E1", "F1", "A2")
		give(t, s, "A2=")
		checkWork(t, s, order, way)
		give(t, s, "A1=2")
		checkWork(t, s, order, way, "A1", "B1", "C1", "F1")
		give(t, s, "B2=\"y\"")
		checkWork(t, s, order, way, "B2")
		checkLines(t, s, `A1=2 B1=2 C1=2 D1=5 E1=5 F1=7 B2="y"`)
	})
}

func TestSameFormulaGivenAgainIsNotBegun(t *testing.T) {
	everyWay(func(order, way int) {
		s := given(t, 0, "A1=1+2", "B1=A1", "C1=3")
		work(t, s, order, way)
		give(t, s, "A1= 01  +02", "C1=4", "C1=3")
		checkWork(t, s, order, way)
		give(t, s, "A1=1+2", "C1=5")
		checkWork(t, s, order, way, "C1")
		give(t, s, "A1=", "A1=(1+2)")
		if way == api.Dirty {
			checkWork(t, s, order, way, "A1", "B1")
		} else {
			checkWork(t, s, order, way, "A1")
		}
		checkLines(t, s, "A1=3 B1=3 C1=5")
	})
}

// TestWhatWasReadMatters: a formula that names a cell and did not read it does not hang on it.
func TestWhatWasReadMatters(t *testing.T) {
	everyWay(func(order, way int) {
		s := given(t, 0, "A1=if(B1, C1, D1)", "B1=true", "C1=1", "D1=2", "A2=1/0 + D1", "B2=sum(C2:E2)", `C2="x"`, "D2=D1", "E2=D2", `F2=at("C"&"1")`)
		work(t, s, order, way)
		give(t, s, "D1=3")
		checkWork(t, s, order, way, "D1", "D2", "E2")
		give(t, s, "C1=4")
		checkWork(t, s, order, way, "A1", "C1", "F2")
		give(t, s, "B1=false")
		checkWork(t, s, order, way, "A1", "B1")
		give(t, s, "C1=5")
		checkWork(t, s, order, way, "C1", "F2")
		give(t, s, "D1=6", "C2=1")
		checkWork(t, s, order, way, "A1", "D1", "D2", "E2", "B2", "C2")
		checkLines(t, s, "A1=6 B1=false C1=5 D1=6 A2=#DIV B2=13 C2=1 D2=6 E2=6 F2=5")
	})
}

func TestCellsWithoutFormulasAreReadToo(t *testing.T) {
	everyWay(func(order, way int) {
		s := given(t, 0, "A1=B1+1", "A2=sum(B1:C1)", "A3=count(B1:C1)", `A4=at("B1")`, "A5=if(true, 1, B1)")
		work(t, s, order, way)
		checkLines(t, s, "A1=1 A2=0 A3=0 A4=0 A5=1")
		give(t, s, "B1=5")
		checkWork(t, s, order, way, "B1", "A1", "A2", "A3", "A4")
		checkLines(t, s, "A1=6 B1=5 A2=5 A3=1 A4=5 A5=1")
		give(t, s, "B1=")
		checkWork(t, s, order, way, "A1", "A2", "A3", "A4")
		checkLines(t, s, "A1=1 A2=0 A3=0 A4=0 A5=1")
		// To count alone a cell that is worth 0 is another thing than one without a formula.
		give(t, s, "B1=0")
		if way == api.Dirty {
			checkWork(t, s, order, way, "B1", "A1", "A2", "A3", "A4")
		} else {
			checkWork(t, s, order, way, "B1", "A3")
		}
		checkLines(t, s, "A1=1 B1=0 A2=0 A3=1 A4=0 A5=1")
		give(t, s, "B1=", "C1=0")
		work(t, s, order, way)
		checkLines(t, s, "A1=1 C1=0 A2=0 A3=1 A4=0 A5=1")
	})
}

func TestVerifyStopsWhereNothingChanges(t *testing.T) {
	for order := range 3 {
		for _, way := range []int{api.Verify, api.Recall} {
			s := given(t, 0, "A1=1", "B1=A1<5", "C1=if(B1, D1, E1)", "D1=A1*0", "E1=7", "F1=C1+D1", "A2=F1+A1")
			work(t, s, order, way)
			give(t, s, "A1=2")
			checkWork(t, s, order, way, "A1", "B1", "D1", "A2")
			give(t, s, "A1=6")
			checkWork(t, s, order, way, "A1", "B1", "C1", "D1", "F1", "A2")
			checkLines(t, s, "A1=6 B1=false C1=7 D1=0 E1=7 F1=7 A2=13")
		}
	}
}

func TestDirtyGoesAsFarAsWasRead(t *testing.T) {
	for order := range 3 {
		s := given(t, 0, "A1=1", "B1=A1<5", "C1=if(B1, D1, E1)", "D1=A1*0", "E1=7", "F1=C1+D1", "A2=if(false, F1, 3)", "B2=E1")
		work(t, s, order, api.Dirty)
		give(t, s, "A1=2")
		checkWork(t, s, order, api.Dirty, "A1", "B1", "C1", "D1", "F1")
		give(t, s, "E1=8")
		checkWork(t, s, order, api.Dirty, "E1", "B2")
		give(t, s, "A1=9")
		checkWork(t, s, order, api.Dirty, "A1", "B1", "C1", "D1", "F1")
		give(t, s, "E1=7")
		checkWork(t, s, order, api.Dirty, "E1", "B2", "C1", "F1")
		checkLines(t, s, "A1=9 B1=false C1=7 D1=0 E1=7 F1=7 A2=3 B2=7")
	}
}

func TestWhatWasReadIsKnownThroughAllWays(t *testing.T) {
	everyWay(func(order, way int) {
		everyWay(func(order2, way2 int) {
			s := given(t, 9, "A1=B1+C1", "B1=D1*0", "C1=if(D1 < 5, D1*0, E1)", "D1=1", "E1=3", "F1=A1")
			work(t, s, order, way)
			give(t, s, "D1=2")
			work(t, s, order2, way2)
			// Whether A1 and F1 were begun or not, what they read is known.
			give(t, s, "E1=4")
			checkWork(t, s, order, way, "E1")
			give(t, s, "D1=6")
			work(t, s, order2, way2)
			checkLines(t, s, "A1=4 B1=0 C1=4 D1=6 E1=4 F1=4")
			give(t, s, "E1=5")
			checkWork(t, s, order, way, "E1", "C1", "A1", "F1")
			checkLines(t, s, "A1=5 B1=0 C1=5 D1=6 E1=5 F1=5")
		})
	})
}

func countOf(begun []string, cell string) int {
	count := 0
	for _, name := range begun {
		if name == cell {
			count++
		}
	}
	return count
}

// checkOften: how often cells are begun, by the order.
func checkOften(t *testing.T, order int, begun []string, cells int) {
	t.Helper()
	for _, cell := range begun {
		count := countOf(begun, cell)
		if order == api.Suspend && count > 1 || count > cells+1 {
			t.Errorf("P7: by order %d, with %d formulas, %s is begun %d times: %v", order, cells, cell, count, begun)
		}
	}
}

// rows has formulas by which a cell misses many others, if it is taken in the order of cells.
func rows() map[string][]string {
	all := map[string][]string{
		"backwards":     {"A1=B1", "B1=C1", "C1=D1", "D1=E1", "E1=F1", "F1=A2", "A2=B2", "B2=C2", "C2=1"},
		"all behind":    {"A1=B1+C1+D1+E1+F1", "B1=C1+D1+E1+F1", "C1=D1+E1+F1", "D1=E1+F1", "E1=F1", "F1=1"},
		"all ahead":     {"A1=1", "B1=A1", "C1=A1+B1", "D1=A1+B1+C1", "E1=A1+B1+C1+D1", "F1=A1+B1+C1+D1+E1"},
		"ranges":        {"A1=sum(A2:F3)", "A2=sum(A3:F4)", "B2=1", "C2=count(A4:F5)", "F3=sum(D4:F4)", "D4=sum(D5:F6)", "F6=2", "E4=F6"},
		"ring":          {"A1=B1", "B1=C1", "C1=D1", "D1=E1", "E1=F1", "F1=A1"},
		"ring and tail": {"A1=B1+C1", "B1=C1+D1", "C1=D1+E1", "D1=E1+F1", "E1=F1+A2", "F1=A2+B2", "A2=B2+C2", "B2=C2+D2", "C2=D2+E2", "D2=1", "E2=C2"},
		"two rings":     {"A1=C1+B1", "B1=D1", "C1=E1", "D1=B1", "E1=C1", "F1=A1+B1+C1"},
		"all itself":    {"A1=A1", "B1=B1", "C1=C1+A1", "D1=A1+D1"},
	}
	var chain []string
	names := cellNames()
	for i, cell := range names[:len(names)-1] {
		chain = append(chain, cell+"="+names[i+1]+"+"+names[(i+7)%len(names)])
	}
	all["a ring of the whole sheet"] = chain
	return all
}

func TestHowOftenACellIsBegun(t *testing.T) {
	for name, edits := range rows() {
		everyWay(func(order, way int) {
			s := given(t, 3, edits...)
			checkOften(t, order, work(t, s, order, way), len(edits))
			for _, edit := range edits {
				give(t, s, edit[:2]+"=5")
				checkOften(t, order, work(t, s, order, way), len(edits))
				give(t, s, edit)
				checkOften(t, order, work(t, s, order, way), len(edits))
			}
			if t.Failed() {
				t.Fatalf("%s, order %d, way %d", name, order, way)
			}
		})
	}
}

func TestBegunIsInTheOrderInWhichCellsAreBegun(t *testing.T) {
	s := given(t, 0, "A1=B1+C1", "B1=D1", "C1=2", "D1=3", "E1=A1")
	for _, c := range []struct {
		order int
		want  []string
	}{
		{api.Suspend, []string{"A1", "B1", "D1", "C1", "E1"}},
		{api.Restart, []string{"A1", "B1", "C1", "D1", "E1", "B1", "A1", "E1"}},
		{api.Chain, []string{"A1", "B1", "D1", "B1", "A1", "C1", "A1", "E1"}},
		// The chain is kept.
		{api.Chain, []string{"D1", "B1", "C1", "A1", "E1"}},
	} {
		give(t, s, "A1=", "B1=", "C1=", "D1=", "E1=")
		work(t, s, api.Suspend, api.Verify)
		give(t, s, "A1=B1+C1", "B1=D1", "C1=2", "D1=3", "E1=A1")
		if begun := work(t, s, c.order, api.Dirty); !slices.Equal(begun, c.want) {
			t.Errorf("P7: order %d begins %v, want %v", c.order, begun, c.want)
		}
		checkLines(t, s, "A1=5 B1=3 C1=2 D1=3 E1=5")
	}
}

func TestChainIsKept(t *testing.T) {
	for way := range 3 {
		for name, edits := range rows() {
			s := given(t, 0, edits...)
			work(t, s, api.Chain, way)
			if slices.ContainsFunc(cellNames(), func(cell string) bool { return hangs(s, cell) }) {
				continue
			}
			for _, edit := range slices.Backward(edits) {
				give(t, s, edit[:2]+"=")
			}
			work(t, s, api.Suspend, way)
			give(t, s, edits...)
			if begun := work(t, s, api.Chain, way); len(begun) != len(edits) {
				t.Errorf("P7: %s, way %d: along the chain that is kept %v are begun, each of %d cells once is enough", name, way, begun, len(edits))
			}
		}
	}
}

func hangs(s *sheets.Sheet, cell string) bool {
	value, _ := s.Value(cell)
	return value == cycleValue()
}
