package sheets_test

import (
	"math"
	"math/rand"
	"slices"
	"strconv"
	"strings"
	"sync"
	"testing"
	"unsafe"

	"sheets/api"
	"sheets/sheets"
)

// model is a second writing of what a sheet keeps of edits and bounds, over maps of names.
type model struct {
	texts  map[string]string
	bounds map[string][2]int64
}

func newModel() model {
	return model{texts: map[string]string{}, bounds: map[string][2]int64{}}
}

func (m model) bound(cell string, lo, hi int64) api.Errno {
	if !slices.Contains(cellNames(), cell) {
		return api.ErrCell
	}
	if lo > hi {
		return api.ErrRange
	}
	m.bounds[cell] = [2]int64{lo, hi}
	return api.OK
}

func (m model) edit(batch []api.Edit) (api.Errno, int, int) {
	if len(batch) > api.MaxBatch {
		return api.ErrLong, 0, 0
	}
	for i, edit := range batch {
		if !slices.Contains(cellNames(), edit.Cell) {
			return api.ErrCell, i, 0
		}
		if edit.Text == "" {
			continue
		}
		plain, fault, place := sheets.Plain(edit.Text)
		if fault != api.OK {
			return fault, i, place
		}
		number, err := strconv.ParseInt(plain, 10, 64)
		bound, bounded := m.bounds[edit.Cell]
		if err == nil && bounded && (number < bound[0] || number > bound[1]) {
			return api.ErrRule, i, 0
		}
	}
	for _, edit := range batch {
		m.texts[edit.Cell], _, _ = sheets.Plain(edit.Text)
	}
	return api.OK, 0, 0
}

func anyOf(source *rand.Rand, list ...string) string {
	return list[source.Intn(len(list))]
}

func anyCell(source *rand.Rand) string {
	if source.Intn(40) == 0 {
		return anyOf(source, noCells()...)
	}
	return anyOf(source, "A1", "B1", "A2", "F8", anyOf(source, cellNames()...))
}

func anyText(source *rand.Rand) string {
	switch source.Intn(12) {
	case 0:
		return ""
	case 1:
		return anyOf(source, formulas()...)
	case 2:
		return anyOf(source, "A1+B1", "(3)", "--4", "sum(A1:B2)", `at("A"&"1")`, "9223372036854775807", "-9223372036854775807")
	}
	return anyOf(source, "", "-", "- ", " ", "0") + strconv.Itoa(source.Intn(9))
}

func anyBatch(source *rand.Rand) []api.Edit {
	batch := make([]api.Edit, source.Intn(5))
	if source.Intn(8) == 0 {
		batch = make([]api.Edit, source.Intn(12))
	}
	for i := range batch {
		batch[i] = api.Edit{Cell: anyCell(source), Text: anyText(source)}
	}
	return batch
}

func anyBound(source *rand.Rand) (int64, int64) {
	if source.Intn(6) == 0 {
		edges := []int64{math.MinInt64, -math.MaxInt64, -math.MaxInt64 + 1, math.MaxInt64, math.MaxInt64 - 1, 0}
		return edges[source.Intn(len(edges))], edges[source.Intn(len(edges))]
	}
	lo := int64(source.Intn(14) - 8)
	return lo, lo + int64(source.Intn(10)-1)
}

func checkStep(t *testing.T, source *rand.Rand, s *sheets.Sheet, m model) {
	t.Helper()
	if source.Intn(5) == 0 {
		cell := anyCell(source)
		lo, hi := anyBound(source)
		checkBound(t, s, m.bound(cell, lo, hi), cell, lo, hi)
		return
	}
	batch := anyBatch(source)
	fault, number, place := m.edit(batch)
	checkEdit(t, s, fault, number, place, batch...)
}

func TestAnyRowOfCallsIsAnsweredAsByTheModel(t *testing.T) {
	// The seeds are fixed, so that a failure comes again.
	for seed := range int64(100) {
		source := rand.New(rand.NewSource(seed))
		s, other := newSheet(t, source.Intn(api.MaxStore+1)), newSheet(t, 0)
		m, otherModel := newModel(), newModel()
		for range 200 {
			checkStep(t, source, s, m)
			if source.Intn(4) == 0 {
				checkStep(t, source, other, otherModel)
			}
		}
		checkOnly(t, s, m.texts)
		checkOnly(t, other, otherModel.texts)
		if t.Failed() {
			t.Fatalf("seed %d", seed)
		}
	}
}

func TestCallsEndAtAnyTexts(t *testing.T) {
	source := rand.New(rand.NewSource(1))
	pieces := append(append(formulas(), noCells()...), "(", ")", "-", "8", "A1", "\x00", "\xff", "if(", "\"")
	s := newSheet(t, 0)
	for range 20000 {
		var text, cell strings.Builder
		for range source.Intn(12) {
			text.WriteString(anyOf(source, pieces...))
		}
		for range source.Intn(3) {
			cell.WriteString(anyOf(source, pieces...))
		}
		for _, name := range []string{"A1", cell.String()} {
			before, _ := s.Formula(name)
			fault, number, place := s.Edit([]api.Edit{{Cell: name, Text: text.String()}})
			after, _ := s.Formula(name)
			if fault != api.OK && (number != 0 || place < 0 || place > text.Len() || after != before) {
				t.Errorf("P1: Edit of %q to %q = %d, %d, %d, and %q became %q", name, text.String(), fault, number, place, before, after)
			}
			s.Bound(name, source.Int63(), source.Int63())
		}
	}
}

func TestEditDoesNotWriteIntoItsList(t *testing.T) {
	for _, wrong := range []string{"3", "?", "9", "G1"} {
		s := newSheet(t, 0)
		checkBound(t, s, api.OK, "B1", 1, 5)
		room := []api.Edit{{Cell: "A1", Text: " 01+ 2"}, {Cell: "B1", Text: wrong}, {Cell: "A1"}, {Cell: "C1", Text: "spare"}, {Cell: "D1", Text: "4"}}
		before := slices.Clone(room)
		s.Edit(room[:3])
		s.Edit(room[:0])
		if !slices.Equal(room, before) {
			t.Errorf("P2: Edit made %q of %q", room, before)
		}
		checkFormula(t, s, "C1", "")
		checkFormula(t, s, "D1", "")
	}
}

func TestEditDoesNotKeepItsList(t *testing.T) {
	s := newSheet(t, 0)
	batch := []api.Edit{{Cell: "A1", Text: "1"}, {Cell: "B1", Text: "A1"}}
	checkEdit(t, s, api.OK, 0, 0, batch...)
	batch[0], batch[1] = api.Edit{Cell: "C1", Text: "2"}, api.Edit{}
	checkOnly(t, s, map[string]string{"A1": "1", "B1": "A1"})
	checkEdit(t, s, api.OK, 0, 0, api.Edit{Cell: "D1", Text: "3"})
	checkOnly(t, s, map[string]string{"A1": "1", "B1": "A1", "D1": "3"})
}

func TestEditDoesNotKeepTheBytesOfItsTexts(t *testing.T) {
	for _, text := range []string{"7", "A1", `"x y"`, "true", "1 + 2", "-3"} {
		s := newSheet(t, 0)
		bytes := []byte(text)
		checkEdit(t, s, api.OK, 0, 0, api.Edit{Cell: "A1", Text: unsafe.String(&bytes[0], len(bytes))})
		for i := range bytes {
			bytes[i] = '?'
		}
		checkFormula(t, s, "A1", text)
	}
}

func TestSheetsAreApart(t *testing.T) {
	first, second := newSheet(t, 3), newSheet(t, 3)
	checkEdit(t, first, api.OK, 0, 0, api.Edit{Cell: "A1", Text: "1"}, api.Edit{Cell: "F8", Text: "A1"})
	checkBound(t, first, api.OK, "A1", 1, 2)
	checkOnly(t, second, nil)
	checkEdit(t, second, api.OK, 0, 0, api.Edit{Cell: "A1", Text: "3"}, api.Edit{Cell: "B1", Text: "4"})
	checkBound(t, second, api.OK, "F8", 5, 5)
	checkOnly(t, first, map[string]string{"A1": "1", "F8": "A1"})
	checkEdit(t, first, api.OK, 0, 0, api.Edit{Cell: "F8", Text: "6"})
	checkEdit(t, first, api.ErrRule, 0, 0, api.Edit{Cell: "A1", Text: "3"})
	checkEdit(t, second, api.ErrRule, 0, 0, api.Edit{Cell: "F8", Text: "6"})
	checkOnly(t, second, map[string]string{"A1": "3", "B1": "4"})
	checkOnly(t, newSheet(t, 3), nil)
	checkEdit(t, newSheet(t, 3), api.OK, 0, 0, api.Edit{Cell: "A1", Text: "3"}, api.Edit{Cell: "F8", Text: "6"})
}

func TestSheetsMayBeUsedBesideEachOther(t *testing.T) {
	var workers sync.WaitGroup
	for seed := range int64(8) {
		s := newSheet(t, 0)
		workers.Add(1)
		go func() {
			defer workers.Done()
			source, m := rand.New(rand.NewSource(seed)), newModel()
			for range 200 {
				checkStep(t, source, s, m)
			}
			checkOnly(t, s, m.texts)
		}()
	}
	workers.Wait()
}

func TestPlainDoesNotHangOnSheets(t *testing.T) {
	s := newSheet(t, 0)
	checkBound(t, s, api.OK, "A1", 1, 1)
	checkEdit(t, s, api.OK, 0, 0, api.Edit{Cell: "A1", Text: "A1 + 1"})
	checkEdit(t, s, api.ErrRule, 0, 0, api.Edit{Cell: "A1", Text: "8"})
	checkPlain(t, "8", "8")
	checkPlain(t, "A1", "A1")
}
