package sheets_test

import (
	"slices"
	"strconv"
	"testing"

	"sheets/api"
)

func TestRecallOfAFormulaThatComesBack(t *testing.T) {
	for order := range 3 {
		s := given(t, 9, "C1=7", "C2=C1 * 0", "C3=C2 + C1")
		work(t, s, order, api.Recall)
		give(t, s, "C1=8")
		checkWork(t, s, order, api.Recall, "C1", "C2", "C3")
		give(t, s, "C1=7")
		checkWork(t, s, order, api.Recall)
		checkLines(t, s, "C1=7 C2=0 C3=7")
		give(t, s, "C2=")
		checkWork(t, s, order, api.Recall)
		checkLines(t, s, "C1=7 C3=7")
		give(t, s, "C2=C1*0")
		checkWork(t, s, order, api.Recall)
		give(t, s, "C1=", "C2=", "C3=")
		checkWork(t, s, order, api.Recall)
		checkLines(t, s, "")
		give(t, s, "C3=C2+C1", "C2=C1*0", "C1=8")
		checkWork(t, s, order, api.Recall)
		checkLines(t, s, "C1=8 C2=0 C3=8")
	}
}

func TestVerifyAndDirtyDoNotRecall(t *testing.T) {
	for order := range 3 {
		for _, way := range []int{api.Dirty, api.Verify} {
			s := given(t, api.MaxStore, "A1=7", "B1=A1")
			work(t, s, order, way)
			give(t, s, "A1=8")
			checkWork(t, s, order, way, "A1", "B1")
			give(t, s, "A1=7")
			checkWork(t, s, order, way, "A1", "B1")
		}
	}
}

func TestEveryWayAddsToTheStore(t *testing.T) {
	everyWay(func(order, way int) {
		s := given(t, 9, "A1=7", "B1=A1")
		work(t, s, order, way)
		give(t, s, "A1=8")
		work(t, s, order, way)
		give(t, s, "A1=7")
		checkWork(t, s, (order+1)%3, api.Recall)
		checkLines(t, s, "A1=7 B1=7")
	})
}

func TestAnswersAreOfFormulasNotOfCells(t *testing.T) {
	for order := range 3 {
		s := given(t, 9, "A1=7", "B1=A1+1")
		work(t, s, order, api.Recall)
		give(t, s, "C1=A1 + 1", "D1=7", "E1=07", "F1=7+0")
		checkWork(t, s, order, api.Recall, "F1")
		checkLines(t, s, "A1=7 B1=8 C1=8 D1=7 E1=7 F1=7")
		// Within one Work too: of three cells with one formula that is new one is begun.
		give(t, s, "A2=B1*2", "B2=B1*2", "C2=B1*2")
		if begun := work(t, s, order, api.Recall); len(begun) != 1 {
			t.Errorf("P7: order %d begins %v, want one of A2, B2, C2", order, begun)
		}
		checkLines(t, s, "A1=7 B1=8 C1=8 D1=7 E1=7 F1=7 A2=16 B2=16 C2=16")
	}
}

func TestAnswersHoldByWhatWasRead(t *testing.T) {
	for order := range 3 {
		s := given(t, 30, "A1=true", "B1=1", "C1=2", "D1=if(A1, B1, C1)")
		work(t, s, order, api.Recall)
		give(t, s, "A1=false")
		checkWork(t, s, order, api.Recall, "A1", "D1")
		give(t, s, "A1=true", "C1=3")
		checkWork(t, s, order, api.Recall, "C1")
		checkLines(t, s, "A1=true B1=1 C1=3 D1=1")
		give(t, s, "A1=false")
		checkWork(t, s, order, api.Recall, "D1")
		checkLines(t, s, "A1=false B1=1 C1=3 D1=3")
		give(t, s, "B1=9", "C1=2")
		checkWork(t, s, order, api.Recall, "B1")
		checkLines(t, s, "A1=false B1=9 C1=2 D1=2")
		give(t, s, "A1=true", "C1=5")
		checkWork(t, s, order, api.Recall, "C1", "D1")
		checkLines(t, s, "A1=true B1=9 C1=5 D1=9")
		// What is worth the same by another formula will do; what is of another kind will not.
		give(t, s, "B1=3-2")
		checkWork(t, s, order, api.Recall, "B1")
		give(t, s, `B1="1"`)
		checkWork(t, s, order, api.Recall, "B1", "D1")
		give(t, s, "B1=true")
		checkWork(t, s, order, api.Recall, "D1")
		checkLines(t, s, "A1=true B1=true C1=5 D1=true")
	}
}

// turns gives A1 these formulas one behind the other; with `!` at its head a formula must be recalled, else begun.
func turns(t *testing.T, store int, texts ...string) {
	t.Helper()
	for order := range 3 {
		s := newSheet(t, store)
		for _, text := range texts {
			if text[0] == '!' {
				give(t, s, "A1="+text[1:])
				checkWork(t, s, order, api.Recall)
			} else {
				give(t, s, "A1="+text)
				checkWork(t, s, order, api.Recall, "A1")
			}
		}
	}
}

func TestNewestAnswersStay(t *testing.T) {
	turns(t, 0, "1", "2", "1", "2", "1")
	turns(t, 1, "1", "2", "1", "2", "2+0", "2")
	turns(t, 2, "1", "2", "!1", "!2", "3", "!2", "1", "!3", "2", "!1", "!2", "3", "!2", "1")
	turns(t, 3, "1", "2", "3", "!1", "!2", "!3", "4", "!2", "!3", "1", "!3", "!4", "2", "!4", "!1", "3")
}

func TestMaxStore(t *testing.T) {
	for order := range 3 {
		s := newSheet(t, api.MaxStore)
		for i := range api.MaxStore + 1 {
			give(t, s, "A1="+strconv.Itoa(i))
			checkWork(t, s, order, api.Recall, "A1")
		}
		for i := 1; i <= api.MaxStore; i++ {
			give(t, s, "A1="+strconv.Itoa(i))
			checkWork(t, s, order, api.Recall)
			checkValue(t, s, "A1", intValue(int64(i)))
		}
		give(t, s, "A1=0")
		checkWork(t, s, order, api.Recall, "A1")
		give(t, s, "A1=1")
		checkWork(t, s, order, api.Recall, "A1")
		give(t, s, "A1=3")
		checkWork(t, s, order, api.Recall)
	}
}

func TestAnswersThatComeTwiceTakeTwoPlaces(t *testing.T) {
	for order := range 3 {
		s := given(t, 2, "A1=1")
		checkWork(t, s, order, api.Verify, "A1")
		for _, text := range []string{"2", "1", "", "1"} {
			give(t, s, "A1="+text)
			work(t, s, order, api.Verify)
		}
		give(t, s, "A1=2")
		checkWork(t, s, order, api.Recall, "A1")
		give(t, s, "A1=1")
		checkWork(t, s, order, api.Recall)
	}
}

func TestCycleIsNotStored(t *testing.T) {
	for order := range 3 {
		s := given(t, 1, "A1=5")
		work(t, s, order, api.Recall)
		give(t, s, "A1=", "B1=B1", "C1=bad(B1)", "D1=E1+C1", "E1=D1")
		checkWork(t, s, order, api.Recall, "B1", "C1", "D1", "E1")
		give(t, s, "A1=5", "B1=", "C1=", "D1=", "E1=")
		checkWork(t, s, order, api.Recall)
		checkLines(t, s, "A1=5")
		give(t, s, "B1=B1", "C1=bad(B1)")
		checkWork(t, s, order, api.Recall, "B1", "C1")
		checkLines(t, s, "A1=5 B1=#CYCLE C1=#CYCLE")
	}
}

func TestWhatIsLeftIsNotStored(t *testing.T) {
	for order := range 3 {
		// By the orders Chain and Restart A1 is begun three times, and worked out to its end once.
		s := given(t, 3, "A1=B1+C1", "B1=5", "C1=6")
		work(t, s, order, api.Recall)
		give(t, s, "A1=", "B1=", "C1=", "B2=5", "C2=6")
		checkWork(t, s, order, api.Recall)
		checkLines(t, s, "B2=5 C2=6")
	}
}

// TestWhatIsLeftMayBeRecalled: B1 is begun and left ahead of A1's end, which tells what it is worth.
func TestWhatIsLeftMayBeRecalled(t *testing.T) {
	s := given(t, 3, "A1=C1+D1", "B1=C1+D1", "C1=1", "D1=2")
	if begun := work(t, s, api.Restart, api.Recall); !slices.Equal(begun, []string{"A1", "B1", "C1", "D1", "A1"}) {
		t.Errorf("P7: %v are begun, want A1, B1, C1, D1, and A1 anew", begun)
	}
	checkLines(t, s, "A1=3 B1=3 C1=1 D1=2")
}

func TestErrorsAreStored(t *testing.T) {
	for order := range 3 {
		s := given(t, 9, "A1=0", "B1=1/A1", "C1=bad(B1)", `D1=at("x"&"y")`)
		work(t, s, order, api.Recall)
		give(t, s, "A1=1")
		checkWork(t, s, order, api.Recall, "A1", "B1", "C1")
		give(t, s, "A1=0", "D1=")
		checkWork(t, s, order, api.Recall)
		give(t, s, `D1=at("x"&"y")`)
		checkWork(t, s, order, api.Recall)
		checkLines(t, s, "A1=0 B1=#DIV C1=true D1=#REF")
	}
}

// TestAnswerThatTheStoreHadWhenTheTurnCame: to find out whether it holds another cell must be worked out first, and that takes its place.
func TestAnswerThatTheStoreHadWhenTheTurnCame(t *testing.T) {
	for order := range 3 {
		s := given(t, 1, "A1=B1+1", "B1=1")
		work(t, s, order, api.Recall)
		give(t, s, "B1=A1")
		checkWork(t, s, order, api.Recall, "A1", "B1")
		checkLines(t, s, "A1=#CYCLE B1=#CYCLE")
		give(t, s, "B1=1")
		checkWork(t, s, order, api.Recall, "B1")
		checkLines(t, s, "A1=2 B1=1")
	}
}

func TestStoreWithoutPlacesIsAsVerify(t *testing.T) {
	for order := range 3 {
		first, second := given(t, 0, "A1=1", "B1=A1", "C1=1", "D1=B1"), given(t, 0, "A1=1", "B1=A1", "C1=1", "D1=B1")
		for _, edit := range []string{"A1=1", "A1=2", "A1=1", "C1=2", "B1=", "B1=A1", "A1=2", "D1=D1", "D1=B1", "B1=D1", "B1=A1"} {
			give(t, first, edit)
			give(t, second, edit)
			if verified, recalled := work(t, first, order, api.Verify), work(t, second, order, api.Recall); !slices.Equal(verified, recalled) {
				t.Errorf("P7: %s: order %d begins %v by the way Recall, %v by the way Verify", edit, order, recalled, verified)
			}
		}
	}
}

func TestAnswersWithCellsThatHadNoFormula(t *testing.T) {
	for order := range 3 {
		s := given(t, 9, "A1=B1+1", "A2=count(B1:B1)")
		work(t, s, order, api.Recall)
		give(t, s, "B1=5")
		checkWork(t, s, order, api.Recall, "A1", "A2", "B1")
		give(t, s, "B1=")
		checkWork(t, s, order, api.Recall)
		checkLines(t, s, "A1=1 A2=0")
		give(t, s, "B1=5")
		checkWork(t, s, order, api.Recall)
		give(t, s, "B1=0")
		work(t, s, order, api.Recall)
		checkLines(t, s, "A1=1 B1=0 A2=1")
	}
}
