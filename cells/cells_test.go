package cells

import (
	"slices"
	"strings"
	"testing"
)

const columns, rows = "ABCDEF", "12345678"

// names has the cells in their order.
func names() []string {
	var all []string
	for _, row := range rows {
		for _, column := range columns {
			all = append(all, string(column)+string(row))
		}
	}
	return all
}

func TestNamesGoInTheOrderOfCells(t *testing.T) {
	for number, want := range names() {
		if name := Name(number); name != want {
			t.Errorf("Name(%d) = %s, want %s", number, name, want)
		}
	}
}

func TestNumbersGoInTheOrderOfCells(t *testing.T) {
	for want, name := range names() {
		if number, known := Number(name); !known || number != want {
			t.Errorf("Number(%s) = %d, %v, want %d", name, number, known, want)
		}
	}
}

func TestTotalIsTheNumberOfNames(t *testing.T) {
	if want := len(names()); Total != want {
		t.Errorf("Total = %d, want %d", Total, want)
	}
}

func TestNoOtherTextNamesACell(t *testing.T) {
	for _, name := range []string{"", "A", "1", "A01", "A10", "A1 ", " A1", "AA1", "\xff\xff\xff"} {
		if number, known := Number(name); known || number != 0 {
			t.Errorf("Number(%q) = %d, %v", name, number, known)
		}
	}
	for first := range 256 {
		for second := range 256 {
			name := string([]byte{byte(first), byte(second)})
			want := strings.IndexByte(columns, name[0]) >= 0 && strings.IndexByte(rows, name[1]) >= 0
			if number, known := Number(name); known != want || !known && number != 0 {
				t.Errorf("Number(%q) = %d, %v, want %v", name, number, known, want)
			}
		}
	}
}

func TestRangeHasTheCellsBetweenInTheirOrder(t *testing.T) {
	for _, first := range names() {
		for _, last := range names() {
			var want []int
			for number, name := range names() {
				if first[0] <= name[0] && name[0] <= last[0] && first[1] <= name[1] && name[1] <= last[1] {
					want = append(want, number)
				}
			}
			if got := Range(first, last); !slices.Equal(got, want) {
				t.Errorf("Range(%s, %s) = %v, want %v", first, last, got, want)
			}
		}
	}
}

func TestNoRangeWithoutBothCorners(t *testing.T) {
	for _, corners := range [][2]string{{"A1", "A9"}, {"A0", "A1"}, {"A1", "G1"}, {"G1", "G1"}, {"", ""}, {"A1", "A10"}} {
		if got := Range(corners[0], corners[1]); got != nil {
			t.Errorf("Range(%s, %s) = %v, want none", corners[0], corners[1], got)
		}
	}
}

func TestAreaCountsTheCellsBetween(t *testing.T) {
	for _, first := range names() {
		for _, last := range names() {
			want := 0
			for _, name := range names() {
				if first[0] <= name[0] && name[0] <= last[0] && first[1] <= name[1] && name[1] <= last[1] {
					want++
				}
			}
			if got := Area(first, last); got != want {
				t.Errorf("Area(%s, %s) = %d, want %d", first, last, got, want)
			}
		}
	}
}

func TestNoAreaWithoutBothCorners(t *testing.T) {
	for _, corners := range [][2]string{{"A1", "A9"}, {"A0", "A1"}, {"A1", "G1"}, {"G1", "G1"}, {"", ""}, {"A1", "A10"}} {
		if got := Area(corners[0], corners[1]); got != 0 {
			t.Errorf("Area(%s, %s) = %d, want 0", corners[0], corners[1], got)
		}
	}
}
