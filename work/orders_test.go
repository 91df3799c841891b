package work

import (
	"slices"
	"testing"

	"sheets/cells"
)

func TestMoveToKeepsTheRest(t *testing.T) {
	for place := range cells.Total {
		for from := place; from < cells.Total; from++ {
			chain := NewKept(0).chain
			want := slices.Insert(slices.Delete(slices.Clone(chain[:]), from, from+1), place, from)
			if moveTo(place, from, &chain); !slices.Equal(chain[:], want) {
				t.Errorf("moveTo(%d, %d): %v, want %v", place, from, chain, want)
			}
		}
	}
}
