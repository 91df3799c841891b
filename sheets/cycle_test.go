package sheets_test

import (
	"testing"

	"sheets/api"
)

// checkAll gives a new sheet these formulas, in all turns of their row, and checks by every order and way what it shows.
func checkAll(t *testing.T, want string, edits ...string) {
	t.Helper()
	everyWay(func(order, way int) {
		for turn := range edits {
			s := given(t, turn%3, edits[turn:]...)
			give(t, s, edits[:turn]...)
			work(t, s, order, way)
			checkLines(t, s, want)
		}
	})
}

func TestCellsThatHangOnThemselves(t *testing.T) {
	checkAll(t, "A1=#CYCLE", "A1=A1")
	checkAll(t, "A1=#CYCLE B1=#CYCLE", "A1=B1", "B1=A1")
	checkAll(t, "A1=#CYCLE B1=#CYCLE C1=#CYCLE", "A1=B1+1", "B1=C1*0", "C1=-A1")
	checkAll(t, "A1=#CYCLE B1=#CYCLE C1=#CYCLE D1=#CYCLE", "A1=B1", "B1=A1", "C1=D1", "D1=C1")
	checkAll(t, "A1=#CYCLE B1=1", "A1=1+A1", "B1=1")
	checkAll(t, "A1=#CYCLE", `A1=at("A1")`)
	checkAll(t, "A1=#CYCLE B1=#CYCLE", `A1=at("B" & "1")`, `B1=at("A1")`)
	checkAll(t, "B1=#CYCLE B2=1", "B1=sum(A1:C2)", "B2=1")
	checkAll(t, "B1=1 B2=#CYCLE", "B1=1", "B2=count(A1:C3)")
	checkAll(t, "A1=#CYCLE", "A1=if(A1, 1, 2)")
	checkAll(t, "A1=#CYCLE", "A1=if(true, A1, 2)")
	checkAll(t, "A1=#CYCLE", "A1=A1 = A1")
	checkAll(t, "A1=#CYCLE", "A1=A1 + 1 / 0")
}

func TestCellsThatReadSuchCells(t *testing.T) {
	checkAll(t, "A1=#CYCLE B1=#CYCLE C1=#CYCLE D1=#CYCLE", "A1=B1", "B1=C1", "C1=D1", "D1=D1")
	checkAll(t, "A1=#CYCLE B1=#CYCLE C1=#CYCLE D1=#CYCLE", "A1=A1", "B1=A1", "C1=B1", "D1=C1")
	checkAll(t, "A1=#CYCLE B1=#CYCLE", "A1=if(true, 1, 2) + B1", "B1=B1")
	checkAll(t, "B1=#CYCLE D1=#CYCLE", "B1=B1", "D1=sum(A2:F2) + count(A1:C1)")
	checkAll(t, "A1=#CYCLE B1=#CYCLE C1=#CYCLE", "A1=1 + C1", "B1=C1 + 1", "C1=if(C1 < 1, 1, 1)")
}

func TestBadDoesNotHelp(t *testing.T) {
	checkAll(t, "A1=#CYCLE", "A1=bad(A1)")
	checkAll(t, "A1=#CYCLE B1=#CYCLE C1=#CYCLE", "A1=bad(B1)", "B1=C1", "C1=B1")
	checkAll(t, "A1=#CYCLE B1=#CYCLE C1=#CYCLE D1=#CYCLE", "A1=if(bad(B1), 1, 2)", "B1=bad(bad(C1))", "C1=bad(D1 / 0)", "D1=bad(sum(C1:C2))")
	checkAll(t, "A1=#CYCLE B1=#CYCLE", "A1=bad(1 / 0 + 1) = bad(B1)", "B1=-B1")
}

func TestCellsThatOnlyMightHangOnThemselves(t *testing.T) {
	checkAll(t, "A1=1", "A1=if(true, 1, A1)")
	checkAll(t, "A1=2", "A1=if(false, A1, 2)")
	checkAll(t, "A1=1 B1=1", "A1=if(true, 1, B1)", "B1=A1")
	checkAll(t, "A1=1 B1=#CYCLE", "A1=if(true, 1, B1)", "B1=B1")
	checkAll(t, "A1=true B1=5 C1=5", "A1=true", "B1=if(A1, 5, C1)", "C1=if(A1, B1, 6)")
	checkAll(t, "A1=false B1=6 C1=6", "A1=false", "B1=if(A1, 5, C1)", "C1=if(A1, B1, 6)")
	checkAll(t, "A1=#DIV", "A1=1 / 0 + A1")
	checkAll(t, "A1=#TYPE", "A1=1 + true + A1")
	checkAll(t, "A1=#CYCLE", "A1=1 + (true + A1)")
	checkAll(t, "A1=#TYPE", "A1=if(1, A1, A1)")
	checkAll(t, "A1=#REF", `A1=at("x") + A1`)
	checkAll(t, "A1=#TYPE", "A1=at(1) = A1")
	checkAll(t, "A1=true", "A1=bad(1 / 0 + A1)")
	checkAll(t, `A1="x" B1=#TYPE`, `A1="x"`, "B1=sum(A1:C1)")
	checkAll(t, "A1=#DIV B1=#DIV C1=#DIV", "A1=1 / 0", "B1=sum(A1:C1)", "C1=count(A1:C1)")
	checkAll(t, "A1=9223372036854775807 B1=1 C1=#OVER", "A1="+greatest, "B1=1", "C1=sum(A1:F1)")
	checkAll(t, `A1="x" B1=#CYCLE`, `A1="x"`, "B1=count(A1:C1)")
	checkAll(t, `A1="B" B1=7 C1=7 D1="1"`, `A1="B"`, "B1=7", "C1=at(A1 & D1)", `D1="1"`)
	checkAll(t, "A1=1 B1=3 C1=2 D1=2", "A1=1", "B1=if(A1 = 1, C1, D1) + 1", "C1=if(A1 = 1, 2, B1)", "D1=if(A1 = 1, 2, B1)")
}

func TestNeedsThatGoInAndOut(t *testing.T) {
	// What each choice reads goes along the row and back, and never in a ring.
	checkAll(t, "A1=1 B1=1 C1=1 D1=1 E1=1 F1=1", "A1=F1", "B1=if(F1 = 1, A1, C1)", "C1=if(F1 = 1, B1, D1)", "D1=if(F1 = 1, C1, E1)", "E1=if(F1 = 1, D1, A1)", "F1=1")
	checkAll(t, "A1=#CYCLE B1=#CYCLE C1=#CYCLE D1=#CYCLE E1=#CYCLE F1=2", "A1=if(F1 = 1, F1, B1)", "B1=if(F1 = 1, A1, C1)", "C1=if(F1 = 1, B1, D1)", "D1=if(F1 = 1, C1, E1)", "E1=if(F1 = 1, D1, A1)", "F1=2")
}

func TestCyclesComeAndGo(t *testing.T) {
	everyWay(func(order, way int) {
		s := given(t, 4, "A1=B1+1", "B1=4", "C1=bad(A1)", "D1=if(C1, 1, 2)", "E1=9")
		work(t, s, order, way)
		checkLines(t, s, "A1=5 B1=4 C1=false D1=2 E1=9")
		for range 3 {
			give(t, s, "B1=if(D1 = 2, 4, 5)")
			work(t, s, order, way)
			checkLines(t, s, "A1=#CYCLE B1=#CYCLE C1=#CYCLE D1=#CYCLE E1=9")
			give(t, s, "E1=8")
			work(t, s, (order+1)%3, way)
			checkLines(t, s, "A1=#CYCLE B1=#CYCLE C1=#CYCLE D1=#CYCLE E1=8")
			give(t, s, "B1=")
			work(t, s, order, (way+1)%3)
			checkLines(t, s, "A1=1 C1=false D1=2 E1=8")
			give(t, s, "B1=1/0", "E1=9")
			work(t, s, order, way)
			checkLines(t, s, "A1=#DIV B1=#DIV C1=true D1=1 E1=9")
			give(t, s, "B1=4")
			work(t, s, order, way)
			checkLines(t, s, "A1=5 B1=4 C1=false D1=2 E1=9")
		}
	})
}

func TestAChoiceChangesWhatHangsOnItself(t *testing.T) {
	everyWay(func(order, way int) {
		s := given(t, 4, "A1=true", "B1=if(A1, 5, C1)", "C1=if(A1, B1, 6)", "D1=if(A1, D1, 7)")
		for range 2 {
			give(t, s, "A1=true")
			work(t, s, order, way)
			checkLines(t, s, "A1=true B1=5 C1=5 D1=#CYCLE")
			give(t, s, "A1=false")
			work(t, s, order, way)
			checkLines(t, s, "A1=false B1=6 C1=6 D1=7")
			give(t, s, "A1=if(B1=5,true,false)")
			work(t, s, order, way)
			checkLines(t, s, "A1=#CYCLE B1=#CYCLE C1=#CYCLE D1=#CYCLE")
		}
	})
}

func TestExamplesOfTheDocument(t *testing.T) {
	everyWay(func(order, way int) {
		s := given(t, 3, "A1=5", "A2=A1 / 0", "A3=bad(A2)", "A4=if(A3, A1, A2)", "B1=B2 + 1", "B2=B1", "B3=bad(B1)", "B4=if(true, 1, B1)")
		work(t, s, order, way)
		checkLines(t, s, "A1=5 B1=#CYCLE A2=#DIV B2=#CYCLE A3=true B3=#CYCLE A4=5 B4=1")
		give(t, s, "B2=4")
		work(t, s, order, way)
		checkLines(t, s, "A1=5 B1=5 A2=#DIV B2=4 A3=true B3=false A4=5 B4=1")
	})
	s := given(t, 0, "C1=7", "C2=C1 * 0", "C3=C2 + 1")
	work(t, s, api.Suspend, api.Verify)
	give(t, s, "C1=8")
	checkWork(t, s, api.Suspend, api.Verify, "C1", "C2")
}
