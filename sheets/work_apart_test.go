package sheets_test

import (
	"fmt"
	"math"
	"math/rand"
	"slices"
	"strings"
	"sync"
	"testing"
	"unsafe"

	"sheets/api"
	"sheets/sheets"
)

// anyCalls does a row of edits and Works on a sheet, and tells all answers. Between the calls it calls between.
func anyCalls(t *testing.T, seed int64, s *sheets.Sheet, between func(report api.Report)) string {
	source := rand.New(rand.NewSource(seed))
	var answers strings.Builder
	for range 30 {
		checkEdit(t, s, api.OK, 0, 0, api.Edit{Cell: nearCell(source), Text: anyWorkText(source)}, api.Edit{Cell: nearCell(source), Text: anyWorkText(source)})
		report, fault := s.Work(source.Intn(3), source.Intn(3))
		fmt.Fprintf(&answers, "%v %v %s\n", report.Begun, fault, s.Show())
		between(report)
	}
	return answers.String()
}

func quiet(api.Report) {}

// checkNothingChanges holds a row of calls with others between against the same row without.
func checkNothingChanges(t *testing.T, what string, between func(s *sheets.Sheet, report api.Report)) {
	t.Helper()
	for seed := range int64(60) {
		places := []int{0, 1, 4, api.MaxStore}[seed%4]
		s := newSheet(t, places)
		with := anyCalls(t, seed, s, func(report api.Report) { between(s, report) })
		if without := anyCalls(t, seed, newSheet(t, places), quiet); with != without {
			t.Fatalf("%s: with them the answers are\n%s\nwithout\n%s", what, with, without)
		}
	}
}

func TestSameCallsTellTheSame(t *testing.T) {
	checkNothingChanges(t, "P2: no calls between", func(*sheets.Sheet, api.Report) {})
}

func TestFaultsChangeNothing(t *testing.T) {
	checkNothingChanges(t, "P1: calls that are refused", func(s *sheets.Sheet, _ api.Report) {
		refuseWork(t, s, 3, 0)
		refuseWork(t, s, 0, -1)
		refuseWork(t, s, math.MinInt, math.MaxInt)
		checkEdit(t, s, api.ErrCell, 1, 0, api.Edit{Cell: "A1", Text: "77"}, api.Edit{Cell: "A9", Text: "1"})
		checkEdit(t, s, api.ErrSyntax, 2, 1, api.Edit{Cell: "A1"}, api.Edit{Cell: "B2"}, api.Edit{Cell: "C3", Text: "("})
		checkEdit(t, s, api.ErrLong, 0, 0, make([]api.Edit, api.MaxBatch+1)...)
		checkBound(t, s, api.ErrRange, "A1", 1, 0)
		checkBound(t, s, api.ErrCell, "A0", 1, 2)
		if value, fault := s.Value("G1"); value != (api.Value{}) || fault != api.ErrCell {
			t.Errorf("P6: Value(G1) = %v, %d", value, fault)
		}
	})
}

func TestTellingChangesNothing(t *testing.T) {
	checkNothingChanges(t, "P6: calls that tell", func(s *sheets.Sheet, _ api.Report) {
		for _, cell := range cellNames() {
			s.Value(cell)
			s.Formula(cell)
		}
		s.Show()
		sheets.Plain("A1+1")
	})
}

func TestWorkWithoutEditsChangesNothing(t *testing.T) {
	checkNothingChanges(t, "P7: Works without edits", func(s *sheets.Sheet, _ api.Report) {
		everyWay(func(order, way int) { checkWork(t, s, order, way) })
	})
}

func TestReportsMayBeWrittenInto(t *testing.T) {
	checkNothingChanges(t, "P2: reports that are written into", func(s *sheets.Sheet, report api.Report) {
		room := report.Begun[:cap(report.Begun)]
		for i := range room {
			room[i] = "F8"
		}
		_ = append(report.Begun[:0], "A1", "B2")
	})
}

func TestReportsStayAsTheyAre(t *testing.T) {
	var kept, copies [][]string
	checkNothingChanges(t, "P2: reports that are kept", func(s *sheets.Sheet, report api.Report) {
		kept, copies = append(kept, report.Begun), append(copies, slices.Clone(report.Begun))
	})
	for i := range kept {
		if !slices.Equal(kept[i], copies[i]) {
			t.Errorf("P2: a later call made %v of the report %v", kept[i], copies[i])
		}
	}
}

func TestWorksOfSheetsAreApart(t *testing.T) {
	others := []*sheets.Sheet{newSheet(t, 0), newSheet(t, 1), newSheet(t, api.MaxStore)}
	source := rand.New(rand.NewSource(1))
	checkNothingChanges(t, "P2: calls on other sheets", func(*sheets.Sheet, api.Report) {
		for _, other := range others {
			checkEdit(t, other, api.OK, 0, 0, api.Edit{Cell: nearCell(source), Text: anyWorkText(source)})
			work(t, other, source.Intn(3), source.Intn(3))
		}
	})
}

func TestSheetsMayBeWorkedOutBesideEachOther(t *testing.T) {
	var workers sync.WaitGroup
	var answers [8]string
	for i := range answers {
		workers.Add(1)
		go func() {
			defer workers.Done()
			answers[i] = anyCalls(t, 5, newSheet(t, 4), quiet)
		}()
	}
	workers.Wait()
	for _, answer := range answers {
		if answer != answers[0] {
			t.Errorf("P2: sheets beside each other answer\n%s\nand\n%s", answer, answers[0])
		}
	}
}

func TestWorkDoesNotKeepTheBytesOfTexts(t *testing.T) {
	everyWay(func(order, way int) {
		s := newSheet(t, 4)
		text := []byte(`"abc"&"d"`)
		name := []byte("A1")
		checkEdit(t, s, api.OK, 0, 0, api.Edit{Cell: unsafe.String(&name[0], 2), Text: unsafe.String(&text[0], len(text))})
		scrub := func() {
			for i := range text {
				text[i] = '?'
			}
			name[0] = '?'
		}
		if order == api.Chain {
			scrub()
		}
		checkWork(t, s, order, way, "A1")
		scrub()
		checkValue(t, s, "A1", textValue("abcd"))
		give(t, s, "A1=")
		work(t, s, order, way)
		give(t, s, `B1="abc"&"d"`)
		checkWork(t, s, order, api.Recall)
		checkLines(t, s, `B1="abcd"`)
	})
}

func TestWorkEndsAtAnyOrderAndWay(t *testing.T) {
	s := given(t, 1, "A1=B1", "B1=A1", "C1=5")
	for order := -300; order < 300; order++ {
		for way := -300; way < 300; way++ {
			give(t, s, "C1=5")
			_, fault := s.Work(order, way)
			if right := order >= 0 && order < 3 && way >= 0 && way < 3; (fault == api.OK) != right || !right && fault != api.ErrWay {
				t.Errorf("P6: Work(%d, %d): fault %d", order, way, fault)
			}
		}
	}
}
