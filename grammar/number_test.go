package grammar

import (
	"math"
	"testing"

	"sheets/api"
)

func TestNumberOfANumAlone(t *testing.T) {
	for text, want := range map[string]int64{
		"0": 0, "-0": 0, "7": 7, "-7": -7, " - 7 ": -7, "007": 7, "-007": -7,
		"9223372036854775807": math.MaxInt64, "-9223372036854775807": -math.MaxInt64,
	} {
		list, fault, _ := Read(text)
		if number, alone := Number(list); fault != api.OK || !alone || number != want {
			t.Errorf("Number of %q = %d, %v, want %d", text, number, alone, want)
		}
	}
}

func TestNoNumberOfOtherFormulas(t *testing.T) {
	for _, text := range []string{
		"--7", "---7", "(7)", "-(7)", "(-7)", "7 + 0", "7 - 0", "0 - 7", "-7 - 0", "7 = 7", "7 * 1", `"7"`, "true", "A1", "-A1", "sum(A1:A1)",
		"if(true, 7, 8)",
	} {
		list, fault, _ := Read(text)
		if number, alone := Number(list); fault != api.OK || alone || number != 0 {
			t.Errorf("Number of %q = %d, %v, want none", text, number, alone)
		}
	}
	if number, alone := Number(nil); alone || number != 0 {
		t.Errorf("Number of no tokens = %d, %v, want none", number, alone)
	}
}
