package sheets_test

import (
	"math"
	"strings"
	"testing"

	"sheets/api"
	"sheets/sheets"
)

const (
	greatest = "9223372036854775807"
	least    = "(-9223372036854775807 - 1)"
)

// checkWorths gives F8 one formula behind the other on a sheet that has others too, and checks by every order and way what it is worth.
func checkWorths(t *testing.T, worths []string) {
	t.Helper()
	everyWay(func(order, way int) {
		s := given(t, 2, "B1=7", `B2="B1"`, "B3=true", "C1="+greatest, "C3=1/0", "D1=-5", `D2="Z9"`, `E1="12345678901234567890"`)
		for _, worth := range worths {
			text, want, _ := strings.Cut(worth, " -> ")
			give(t, s, "F8="+text)
			work(t, s, order, way)
			if _, got, _ := strings.Cut(s.Show(), "F8="); got != want+"\n" {
				t.Errorf("P6: Work(%d, %d): %s is worth %q, want %s", order, way, text, got, want)
			}
		}
	})
}

func TestWorthOfNumbers(t *testing.T) {
	checkWorths(t, []string{
		"5 -> 5", "007 -> 7", "-5 -> -5", "--5 -> 5", "---5 -> -5", "-0 -> 0", "(5) -> 5", "1 + 2 -> 3", "1 - 2 -> -1", "2 * 3 -> 6", "1 + 2 * 3 -> 7", "(1 + 2) * 3 -> 9",
		"10 - 2 - 3 -> 5", "10 - (2 - 3) -> 11", "2 - -3 -> 5", "-2 * -3 -> 6", "-(2 + 3) -> -5", "100 / 10 / 5 -> 2", "100 / (10 / 5) -> 50", "7 / 2 * 2 -> 6", "2 * 7 / 2 -> 7",
		"7 / 2 -> 3", "-7 / 2 -> -3", "7 / -2 -> -3", "-7 / -2 -> 3", "1 / 2 -> 0", "-1 / 2 -> 0", "0 / 5 -> 0", "1 / 0 -> #DIV", "0 / 0 -> #DIV", "-1 / 0 -> #DIV",
		"-true -> #TYPE", `-"1" -> #TYPE`, `-"" -> #TYPE`, "-(1 / 0) -> #DIV", "--true -> #TYPE",
	})
}

func TestWorthAtTheEdgesOf64Bits(t *testing.T) {
	checkWorths(t, []string{
		greatest + " -> 9223372036854775807", "-" + greatest + " -> -9223372036854775807", least + " -> -9223372036854775808",
		greatest + " + 1 -> #OVER", greatest + " + 0 -> 9223372036854775807", greatest + " - -1 -> #OVER", greatest + " + -1 -> 9223372036854775806",
		least + " - 1 -> #OVER", least + " + -1 -> #OVER", least + " + 0 -> -9223372036854775808", least + " - 0 -> -9223372036854775808", "0 - " + least + " -> #OVER",
		"-1 - " + least + " -> 9223372036854775807", "-" + least + " -> #OVER", "--" + least + " -> #OVER", "-(-9223372036854775807) -> 9223372036854775807",
		least + " * 1 -> -9223372036854775808", least + " * -1 -> #OVER", "-1 * " + least + " -> #OVER", "1 * " + least + " -> -9223372036854775808",
		least + " * 0 -> 0", "0 * " + least + " -> 0", least + " * " + least + " -> #OVER", greatest + " * " + greatest + " -> #OVER", greatest + " * -1 -> -9223372036854775807",
		greatest + " * " + least + " -> #OVER", "4294967296 * 2147483648 -> #OVER", "4294967296 * -2147483648 -> -9223372036854775808", "-4294967296 * 2147483648 -> -9223372036854775808",
		"-4294967296 * -2147483648 -> #OVER", "4294967296 * 4294967296 -> #OVER", "3037000499 * 3037000499 -> 9223372030926249001", "3037000500 * 3037000500 -> #OVER",
		least + " / -1 -> #OVER", least + " / 1 -> -9223372036854775808", greatest + " / -1 -> -9223372036854775807", least + " / " + least + " -> 1", "1 / " + least + " -> 0",
		least + " / 2 -> -4611686018427387904", least + " / -2 -> 4611686018427387904", greatest + " / " + least + " -> 0", least + " / " + greatest + " -> -1", least + " / 0 -> #DIV",
		least + " < " + greatest + " -> true", greatest + " < " + least + " -> false", least + " = " + least + " -> true", greatest + " = -" + greatest + " -> false",
	})
}

func TestWorthOfTexts(t *testing.T) {
	checkWorths(t, []string{
		`"a" -> "a"`, `"" -> ""`, `"a" & "b" -> "ab"`, `"a" & "b" & "c" -> "abc"`, `"" & "" -> ""`, `"~!" & "" -> "~!"`, `("a" & "b") & "c" -> "abc"`, `"a" & ("b" & "c") -> "abc"`,
		`"1234567890" & "1234567890" -> "12345678901234567890"`, `"1234567890" & "12345678901" -> #OVER`, `E1 & "" -> "12345678901234567890"`, `E1 & "x" -> #OVER`, `"x" & E1 -> #OVER`,
		`E1 & E1 -> #OVER`, `1 & 2 -> #TYPE`, `"a" & 1 -> #TYPE`, `1 & "a" -> #TYPE`, `true & "a" -> #TYPE`, `"a" & true -> #TYPE`, `true & false -> #TYPE`, `"1" + "2" -> #TYPE`,
		`"1" * 2 -> #TYPE`, `2 / "1" -> #TYPE`, `"1" / 0 -> #TYPE`, `1 - "1" -> #TYPE`, `A1 & "" -> #TYPE`,
	})
}

func TestWorthOfComparing(t *testing.T) {
	checkWorths(t, []string{
		"1 = 1 -> true", "1 = 2 -> false", "true = true -> true", "true = false -> false", "false = false -> true", `"a" = "a" -> true`, `"a" = "b" -> false`, `"" = "" -> true`, `"a" = "A" -> false`,
		`1 = "1" -> #TYPE`, "1 = true -> #TYPE", `"" = false -> #TYPE`, `0 = "" -> #TYPE`, "1 < 2 -> true", "2 < 1 -> false", "2 < 2 -> false", "-1 < 0 -> true", "9 < 10 -> true",
		`"a" < "b" -> true`, `"b" < "a" -> false`, `"a" < "a" -> false`, `"" < "a" -> true`, `"a" < "" -> false`, `"B" < "a" -> true`, `"a" < "aa" -> true`, `"ab" < "b" -> true`, `"9" < "10" -> false`,
		"true < false -> #TYPE", "false < true -> #TYPE", `1 < "a" -> #TYPE`, `"a" < 1 -> #TYPE`, "1 < true -> #TYPE", "1 + 1 = 2 -> true", "1 < 1 + 1 -> true", `"a" & "b" = "ab" -> true`,
		"A1 = 0 -> true", `A1 = "" -> #TYPE`, "(1 < 2) = true -> true", "(1 = 1) = (2 = 2) -> true",
	})
}

func TestFirstErrorIsTheWorth(t *testing.T) {
	checkWorths(t, []string{
		"1 / 0 + true -> #DIV", "true + 1 / 0 -> #DIV", "true + 1 + 1 / 0 -> #TYPE", "1 / 0 + 1 & 2 -> #DIV", "(1 & 2) + 1 / 0 -> #TYPE", "1 & 2 + 1 / 0 -> #TYPE", "1 & (2 + 1 / 0) -> #DIV",
		greatest + " + 1 + 1 / 0 -> #OVER", "1 / 0 * true -> #DIV", "true * 2 / 0 -> #TYPE", "true * (2 / 0) -> #DIV", "1 / 0 = true -> #DIV", "true = 1 / 0 -> #DIV", `1 / 0 < "a" -> #DIV`,
		`at("Z") + 1 / 0 -> #REF`, `1 / 0 + at("Z") -> #DIV`, `"a" & C3 -> #DIV`, "C3 & true -> #DIV", "C3 + C3 -> #DIV",
	})
}

func TestWorthOfCells(t *testing.T) {
	checkWorths(t, []string{"A1 -> 0", "-A1 -> 0", "A1 + 1 -> 1", "1 / A1 -> #DIV", "B1 -> 7", "B1 * B1 -> 49", `B2 -> "B1"`, "B3 -> true", "C3 -> #DIV", "-D1 -> 5", "(((B1))) -> 7", "if(A1, 1, 2) -> #TYPE", "at(A1) -> #TYPE"})
}

func TestWorthOfChoices(t *testing.T) {
	checkWorths(t, []string{
		"if(true, 1, 2) -> 1", "if(false, 1, 2) -> 2", "if(1 < 2, 1, 2) -> 1", "if(B3, B1, B2) -> 7", `if(B3 = false, B1, B2) -> "B1"`, "if(true, 1, 1 / 0) -> 1", "if(false, 1 / 0, 2) -> 2",
		"if(true, 1 / 0, 2) -> #DIV", "if(false, 1, 2 / 0) -> #DIV", "if(1, 2, 3) -> #TYPE", "if(0, 2, 3) -> #TYPE", `if("true", 2, 3) -> #TYPE`, "if(1 / 0, 2, 3) -> #DIV", `if(at("x"), 2, 3) -> #REF`,
		"if(true, if(false, 1, 2), 3) -> 2", "if(false, 1, if(true, 2, 3)) -> 2", "if(if(true, false, true), 1, 2) -> 2", "if(true, 1, 2) + if(false, 1, 2) -> 3", "-if(true, 1, 2) * 3 -> -3",
		"if(true, true, 1) -> true", `if(true, "a", 1) & "b" -> "ab"`, "if(true, 1, 2) = 1 -> true", "1 - if(false, 1 / 0, 5) - 1 -> -5",
	})
}

func TestWorthOfCellsThatAreNamed(t *testing.T) {
	checkWorths(t, []string{
		`at("B1") -> 7`, `at("A1") -> 0`, `at("B" & "1") + 1 -> 8`, `at(B2) -> 7`, `at(at("B2")) -> 7`, `at("B3") -> true`, `at("C3") -> #DIV`, `at(1) -> #TYPE`, `at(true) -> #TYPE`,
		`at(B1) -> #TYPE`, `at(1 / 0) -> #DIV`, `at("") -> #REF`, `at("A9") -> #REF`, `at("A0") -> #REF`, `at("G1") -> #REF`, `at("b1") -> #REF`, `at("B1 ") -> #REF`, `at("B01") -> #REF`,
		`at("B10") -> #REF`, `at("B") -> #REF`, `at("1B") -> #REF`, `at(D2) -> #REF`, `at("B1:B2") -> #REF`, `at(if(true, "B1", "B2")) -> 7`, `-at("D1") -> 5`,
	})
}

func TestWorthOfBad(t *testing.T) {
	checkWorths(t, []string{
		"bad(1) -> false", "bad(1 / 0) -> true", "bad(true) -> false", `bad("") -> false`, "bad(A1) -> false", "bad(C3) -> true", `bad(at("x")) -> true`, "bad(true + 1) -> true", "bad(bad(1 / 0)) -> false",
		"bad(1 + bad(1 / 0)) -> true", "bad(" + greatest + " + 1) -> true", "if(bad(C3), 1, C3) -> 1", "if(bad(B1), 1, B1) -> 7", "bad(1 / 0) = true -> true", "bad(1) = bad(2) -> true",
		"1 + bad(1 / 0) -> #TYPE", "5 - if(bad(2 * (3 + 1 / 0)), 4, 9) -> 1", "bad(1 / 0) + 1 / 0 -> #DIV", "bad(if(bad(1 / 0), 1 / 0, 1)) -> true", "bad(if(bad(1), 1 / 0, 1)) -> false",
		"-bad(1 / 0) -> #TYPE", "bad(sum(B1:B3)) -> true", `if(bad(1 / 0) = bad("a" + 1), 1, 2) -> 1`, "bad(bad(bad(1 / 0))) -> false",
	})
}

func TestWorthOfRanges(t *testing.T) {
	checkWorths(t, []string{
		"sum(B1:B1) -> 7", "sum(A1:A1) -> 0", "sum(A1:A8) -> 0", "sum(A1:B1) -> 7", "sum(B1:B2) -> #TYPE", "sum(B2:B3) -> #TYPE", "sum(B3:C3) -> #TYPE", "sum(C3:C3) -> #DIV", "sum(C1:C3) -> #DIV",
		"sum(C1:C2) -> 9223372036854775807", "sum(B1:C1) -> #OVER", "sum(B1:D1) -> #OVER", "sum(C1:D1) -> 9223372036854775802", "sum(C1:D2) -> #TYPE", "sum(A1:C3) -> #OVER", "sum(D1:D1) * 2 -> -10",
		"count(B1:B1) -> 1", "count(A1:A8) -> 0", "count(B1:B3) -> 1", "count(A1:C2) -> 2", "count(A1:C3) -> #DIV", "count(B1:E1) -> 3", "count(C3:C3) -> #DIV", "count(A1:D2) + 1 -> 4", "-count(A1:F2) -> -3",
		"bad(count(C2:C3)) -> true", "sum(A4:F5) -> 0", "count(A4:F5) -> 0", "sum(B1:B1) = count(B1:B1) + 6 -> true",
	})
}

func TestRangesOfMaxAreaAndTheirOrder(t *testing.T) {
	everyWay(func(order, way int) {
		s := given(t, 5, "A1=1", "F1=10", "A2=100", "F2=1000", "A3=10000", "A4=sum(A1:F2)", "B4=count(A1:F2)", "C4=sum(A1:A3)", "D4=count(F1:F2)")
		work(t, s, order, way)
		checkLines(t, s, "A1=1 F1=10 A2=100 F2=1000 A3=10000 A4=1111 B4=4 C4=10101 D4=2")
		// Row by row: of an Error and a Text, and of sums that are none of 64 bits, it matters which cell is first.
		give(t, s, `B1="x"`, "A2=1/0")
		work(t, s, order, way)
		checkValue(t, s, "A4", errorValue(api.Type))
		checkValue(t, s, "B4", errorValue(api.Div))
		give(t, s, "A1="+greatest, "B1=", "A2=1", "F1=-1", "F2=-1")
		work(t, s, order, way)
		checkValue(t, s, "A4", intValue(math.MaxInt64-1))
		give(t, s, "F1=1", "A2=-2")
		work(t, s, order, way)
		checkValue(t, s, "A4", errorValue(api.Over))
		checkValue(t, s, "B4", intValue(4))
	})
}

// TestSignsOverAllEdges holds what is worked out against numbers of any size.
func TestSignsOverAllEdges(t *testing.T) {
	numbers := []string{
		least, "-9223372036854775807", "-9223372036854775806", "-4611686018427387905", "-4611686018427387904", "-4294967297", "-4294967296", "-4294967295", "-3037000500", "-3037000499", "-2147483648", "-3", "-2",
		"-1", "0", "1", "2", "3", "2147483647", "2147483648", "3037000499", "3037000500", "4294967295", "4294967296", "4294967297", "4611686018427387903", "4611686018427387904", "9223372036854775806", greatest,
	}
	for _, sign := range []string{"+", "-", "*", "/", "=", "<"} {
		for _, first := range numbers {
			s := newSheet(t, 0)
			texts := map[string]string{}
			for i, second := range numbers {
				cell := cellNames()[i]
				texts[cell] = first + " " + sign + " " + second
				give(t, s, cell+"="+texts[cell])
			}
			work(t, s, api.Suspend, api.Verify)
			for cell, want := range refer(texts) {
				if got, _ := s.Value(cell); got != want.value {
					t.Errorf("P6: %s is worth %v, want %v", texts[cell], got, want.value)
				}
			}
		}
	}
}

func TestFormulaThatIsLongerInPlainFormIsWorkedOut(t *testing.T) {
	everyWay(func(order, way int) {
		s := given(t, 1, "A1="+strings.Repeat("1+", 59)+"11", "A2="+strings.Repeat("A1+", 39)+"A1", `A3=`+strings.Repeat(`""&`, 39)+`"x"`)
		work(t, s, order, way)
		checkLines(t, s, `A1=70 A2=2800 A3="x"`)
	})
}

func TestFormulasOfGreatestDepth(t *testing.T) {
	everyWay(func(order, way int) {
		s := given(t, 1, "B1=3", "A1=if(true,if(true,if(true,if(true,if(true,if(true,if(true,if(true,B1,1),1),1),1),1),1),1),1)",
			"A2=bad(bad(bad(bad(bad(bad(bad(bad(B1/0))))))))", "A3=--------(--------(-B1))", "A4=1-(2-(3-(4-(5-(6-(7-(8-(9))))))))")
		work(t, s, order, way)
		checkLines(t, s, "A1=3 B1=3 A2=false A3=-3 A4=5")
	})
}

func TestEveryCellIsWorkedOut(t *testing.T) {
	everyWay(func(order, way int) {
		for _, backwards := range []bool{false, true} {
			s := newSheet(t, 3)
			names := cellNames()
			for i, cell := range names {
				text := "1"
				if !backwards && i > 0 {
					text = names[i-1] + " + 1"
				}
				if backwards && i < len(names)-1 {
					text = names[i+1] + " + 1"
				}
				give(t, s, cell+"="+text)
			}
			work(t, s, order, way)
			for i, cell := range names {
				want := int64(i + 1)
				if backwards {
					want = int64(len(names) - i)
				}
				checkValue(t, s, cell, intValue(want))
			}
		}
	})
}

func TestValueTellsTheLastWork(t *testing.T) {
	everyWay(func(order, way int) {
		s := given(t, 1, "A1=5", "B1=A1+1")
		checkLines(t, s, "")
		checkValue(t, s, "A1", api.Value{})
		work(t, s, order, way)
		checkLines(t, s, "A1=5 B1=6")
		give(t, s, "A1=7", "B1=", "C1=8")
		checkLines(t, s, "A1=5 B1=6")
		checkValue(t, s, "A1", intValue(5))
		checkValue(t, s, "B1", intValue(6))
		checkValue(t, s, "C1", api.Value{})
		work(t, s, order, way)
		checkLines(t, s, "A1=7 C1=8")
		checkValue(t, s, "B1", api.Value{})
	})
}

func TestValuesHaveNothingThatTheirKindDoesNotName(t *testing.T) {
	everyWay(func(order, way int) {
		s := given(t, 1, `A1="x"`, "B1=1=1", "C1=1=2", "D1=1/0", "E1=-5", `F1=""`, `A2="a"&1`, `B2=at("x")`, "C2=C2", "D2="+greatest+"+1", `E2=at("F"&"1")`, `F2="a"="a"`)
		work(t, s, order, way)
		for cell, want := range map[string]api.Value{
			"A1": textValue("x"), "B1": boolValue(true), "C1": boolValue(false), "D1": errorValue(api.Div), "E1": intValue(-5), "F1": textValue(""), "A2": errorValue(api.Type),
			"B2": errorValue(api.Ref), "C2": errorValue(api.Cycle), "D2": errorValue(api.Over), "E2": textValue(""), "F2": boolValue(true), "A3": {}, "F8": {},
		} {
			checkValue(t, s, cell, want)
		}
	})
}

func TestValueOfNoCell(t *testing.T) {
	s := given(t, 1, "A1=5")
	for range 2 {
		for _, cell := range append(noCells(), strings.Repeat("A1", 100000)) {
			if value, fault := s.Value(cell); value != (api.Value{}) || fault != api.ErrCell {
				t.Errorf("P6: Value(%.20q) = %v, %d, want none, ErrCell", cell, value, fault)
			}
		}
		work(t, s, api.Chain, api.Dirty)
	}
}

func TestWrongOrdersAndWays(t *testing.T) {
	wrong := []int{-1, -2, 3, 4, 256, 1 << 32, math.MaxInt, math.MinInt, math.MinInt + 1}
	for _, number := range wrong {
		for right := range 3 {
			checkErrWay(t, number, right)
			checkErrWay(t, right, number)
		}
		for _, other := range wrong {
			checkErrWay(t, number, other)
		}
	}
}

// checkErrWay: nothing is worked out, and the next Work finds all as it was.
func checkErrWay(t *testing.T, order, way int) {
	t.Helper()
	s := given(t, 1, "A1=5", "B1=A1")
	refuseWork(t, s, order, way)
	checkLines(t, s, "")
	checkWork(t, s, api.Restart, api.Verify, "A1", "B1")
	give(t, s, "A1=6")
	refuseWork(t, s, order, way)
	checkLines(t, s, "A1=5 B1=5")
	checkWork(t, s, api.Restart, api.Verify, "A1", "B1")
	checkLines(t, s, "A1=6 B1=6")
}

func refuseWork(t *testing.T, s *sheets.Sheet, order, way int) {
	t.Helper()
	if report, fault := s.Work(order, way); report.Begun != nil || fault != api.ErrWay {
		t.Errorf("P6: Work(%d, %d) = %v, %d, want none, ErrWay", order, way, report, fault)
	}
}
