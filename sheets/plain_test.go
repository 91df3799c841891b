package sheets_test

import (
	"strconv"
	"strings"
	"testing"

	"sheets/api"
	"sheets/sheets"
)

func checkPlain(t *testing.T, formula, want string) {
	t.Helper()
	if text, fault, place := sheets.Plain(formula); text != want || fault != api.OK || place != 0 {
		t.Errorf("P3: Plain(%q) = %q, %d, %d, want %q, 0, 0", formula, text, fault, place, want)
	}
}

func checkFault(t *testing.T, formula string, want api.Errno, at int) {
	t.Helper()
	if text, fault, place := sheets.Plain(formula); text != "" || fault != want || place != at {
		t.Errorf("P3: Plain(%.130q) = %q, %d, %d, want an empty text, %d, %d", formula, text, fault, place, want, at)
	}
}

func TestPlainForm(t *testing.T) {
	for _, c := range [][2]string{
		{`1+02*-A1`, `1 + 2 * -A1`},
		{`if(A1<3,"x y",at("B"&"2"))`, `if(A1 < 3, "x y", at("B" & "2"))`},
		{`--1 - -2`, `--1 - -2`},
		{`1-2`, `1 - 2`},
		{` 1  -  -  -  2 `, `1 - --2`},
		{`1+-2&-3*-4/-5`, `1 + -2 & -3 * -4 / -5`},
		{`-1=-2`, `-1 = -2`},
		{`-A1<-(-B2)`, `-A1 < -(-B2)`},
		{`( -1 )`, `(-1)`},
		{`-(1-2)`, `-(1 - 2)`},
		{`-at("A1")--bad(1)-sum(A1:A2)`, `-at("A1") - -bad(1) - sum(A1:A2)`},
		{`if(-1=1,-2,- - 3)`, `if(-1 = 1, -2, --3)`},
		{`((1)+(2))`, `((1) + (2))`},
		{`if ( true , false , 1 = 1 )`, `if(true, false, 1 = 1)`},
		{`(1=2)=(3<4)`, `(1 = 2) = (3 < 4)`},
		{`sum ( A1 : B2 ) / count ( C3 : D4 )`, `sum(A1:B2) / count(C3:D4)`},
		{`bad(at("x"&"y"))`, `bad(at("x" & "y"))`},
		{`"  a  b  "`, `"  a  b  "`},
		{`"1+02"&"-(,)"`, `"1+02" & "-(,)"`},
		{`true`, `true`},
		{`A1`, `A1`},
		{`0`, `0`},
		{`000`, `0`},
		{`00100`, `100`},
		{`-0`, `-0`},
	} {
		checkPlain(t, c[0], c[1])
		checkPlain(t, c[1], c[1])
	}
}

func TestPlainFormMayBeLongerThanAFormula(t *testing.T) {
	formula := strings.Repeat("1+", 59) + "11"
	plain := strings.Repeat("1 + ", 59) + "11"
	checkPlain(t, formula, plain)
	checkFault(t, plain, api.ErrLong, 0)
}

func TestMaxText(t *testing.T) {
	checkPlain(t, strings.Repeat(" ", api.MaxText-1)+"1", "1")
	checkPlain(t, "1"+strings.Repeat(" ", api.MaxText-1), "1")
	checkFault(t, strings.Repeat(" ", api.MaxText)+"1", api.ErrLong, 0)
	checkFault(t, "1"+strings.Repeat(" ", api.MaxText), api.ErrLong, 0)
	checkFault(t, strings.Repeat(" ", api.MaxText), api.ErrSyntax, api.MaxText)
}

func TestNumEdges(t *testing.T) {
	checkPlain(t, "9223372036854775807", "9223372036854775807")
	checkPlain(t, "-9223372036854775807", "-9223372036854775807")
	checkPlain(t, "0000000000000000001", "1")
	checkPlain(t, "0000000000000000000", "0")
	checkPlain(t, "08+0000000000000000090", "8 + 90")
	checkFault(t, "9223372036854775808", api.ErrToken, 0)
	checkFault(t, "-9223372036854775808", api.ErrToken, 1)
	checkFault(t, "9999999999999999999", api.ErrToken, 0)
	checkFault(t, "00000000000000000001", api.ErrToken, 0)
	checkFault(t, "1 + 10000000000000000000", api.ErrToken, 4)
}

func TestStringEdges(t *testing.T) {
	full := `"` + strings.Repeat("x", api.MaxString) + `"`
	checkPlain(t, full, full)
	checkPlain(t, `""`, `""`)
	checkPlain(t, `" !#~"`, `" !#~"`)
	checkFault(t, `"`+strings.Repeat("x", api.MaxString+1)+`"`, api.ErrToken, 0)
	checkFault(t, `"`+strings.Repeat(" ", api.MaxString+1)+`"`, api.ErrToken, 0)
	checkFault(t, `1 & "x`, api.ErrToken, 4)
	checkFault(t, `"a" & "b`, api.ErrToken, 6)
	for _, c := range []string{"\x00", "\t", "\n", "\x1f", "\x7f", "\x80", "\xff", "é"} {
		checkFault(t, `1&"ab`+c+`c"`, api.ErrToken, 2)
	}
}

func TestWordEdges(t *testing.T) {
	checkPlain(t, "count(A1:A1)", "count(A1:A1)")
	checkPlain(t, "false", "false")
	checkFault(t, "A1234", api.ErrCell, 0)
	checkFault(t, "abcde", api.ErrSyntax, 0)
	checkFault(t, "A12345", api.ErrToken, 0)
	checkFault(t, "counts", api.ErrToken, 0)
	checkFault(t, "1+falses", api.ErrToken, 2)
	for _, word := range []string{"foo", "A", "a1", "AB1", "A1B", "TRUE", "If", "SUM", "x"} {
		checkFault(t, word, api.ErrSyntax, 0)
		checkFault(t, "1 + "+word, api.ErrSyntax, 4)
		checkFault(t, word+"(A1)", api.ErrSyntax, 0)
		checkFault(t, "sum("+word+":A1)", api.ErrSyntax, 4)
		checkFault(t, "sum(A1:"+word+")", api.ErrSyntax, 7)
	}
}

func TestOtherBytes(t *testing.T) {
	for _, c := range []string{"\t", "\n", "\x00", ">", ".", ";", "_", "!", "#", "$", "%", "'", "[", "^", "{", "~", "\x7f", "\xff", "é"} {
		checkFault(t, c, api.ErrToken, 0)
		checkFault(t, "A1 "+c+" 2", api.ErrToken, 3)
		checkFault(t, "A1"+c, api.ErrToken, 2)
	}
}

func TestSyntaxFaults(t *testing.T) {
	for _, c := range []struct {
		formula string
		place   int
	}{
		{"", 0}, {" ", 1}, {"1+", 2}, {"1+  ", 4}, {"-", 1}, {"(", 1}, {"(1", 2}, {"(1  ", 4}, {"1 = ", 4}, {"if", 2}, {"if(", 3}, {"if(1", 4},
		{"if(1,", 5}, {"if(1,2", 6}, {"if(1,2,", 7}, {"if(1,2,3", 8}, {"at", 2}, {"at(", 3}, {"bad(1", 5}, {"sum", 3}, {"sum(", 4}, {"sum(A1", 6},
		{"sum(A1:", 7}, {"count(A1:A2", 11},
		{"+1", 0}, {"*", 0}, {"=1", 0}, {",", 0}, {":", 0}, {")", 0}, {"()", 1}, {"1)", 1}, {"1 * * 2", 4}, {"1+*2", 2}, {"1 2", 2}, {"1 (2)", 2},
		{"1A1", 1}, {`"a""b"`, 3}, {"A1 B1", 3}, {"A 1", 0}, {"true false", 5}, {"true(1)", 4}, {"A1(1)", 2}, {"A1:A2", 2}, {"1,2", 1}, {"(1,2)", 2},
		{"1<2<3", 3}, {"1=2=3", 3}, {"1=2<3", 3}, {"1<2=3", 3}, {"1<=2", 2}, {"(1<2<3)", 4}, {"if(1=2=3,4,5)", 6}, {"if(1,2,3=4=5)", 10},
		{"if 1", 3}, {"if(,2,3)", 3}, {"if(1)", 4}, {"if(1,2)", 6}, {"if(1,2,)", 7}, {"if(1,2,3,4)", 8}, {"if(1:2,3,4)", 4},
		{"at()", 3}, {"at(1,2)", 4}, {"at A1", 3}, {"bad()", 4}, {"bad(1,2)", 5}, {"sum()", 4}, {"sum(A1)", 6}, {"sum(1:A1)", 4}, {"sum(A1:1)", 7},
		{"sum(A1,A2)", 6}, {"sum(A1+A2)", 6}, {"sum((A1:A2))", 4}, {"sum(-A1:A2)", 4}, {"sum(A1:-A2)", 7}, {"sum(A1:A2:A3)", 9}, {"sum(A1:A2,A3)", 9},
		{"count(A1:A2+1)", 11}, {"sum A1:A2", 4}, {"- -", 3}, {"1 - )", 4}, {"-+1", 1}, {"if(true,1,2)3", 12},
	} {
		checkFault(t, c.formula, api.ErrSyntax, c.place)
	}
}

func TestDepthOfBrackets(t *testing.T) {
	for _, c := range []struct{ open, inner, close string }{
		{"(", "1", ")"}, {"at(", "A1", ")"}, {"bad(", "1", ")"}, {"-(", "1", ")"}, {"if(", "1", ", 2, 3)"}, {"if(1, 2, ", "3", ")"},
	} {
		fits := strings.Repeat(c.open, api.MaxDepth)
		if len(fits+c.inner)+api.MaxDepth*len(c.close) <= api.MaxText {
			plain := fits + c.inner + strings.Repeat(c.close, api.MaxDepth)
			checkPlain(t, plain, plain)
		}
		tooDeep := len(fits) + strings.IndexByte(c.open, '(')
		checkFault(t, fits+c.open, api.ErrSyntax, tooDeep)
		checkFault(t, fits+c.open+c.inner, api.ErrSyntax, tooDeep)
	}
	seven, eight := strings.Repeat("(", 7), strings.Repeat("(", 8)
	checkPlain(t, seven+"sum(A1:A2)"+strings.Repeat(")", 7), seven+"sum(A1:A2)"+strings.Repeat(")", 7))
	checkFault(t, eight+"sum(A1:A2)", api.ErrSyntax, 11)
	checkFault(t, eight+"count(A1:A2)", api.ErrSyntax, 13)
	checkFault(t, eight+"if", api.ErrSyntax, 10)
	checkFault(t, eight+"at 1", api.ErrSyntax, 11)
	checkFault(t, eight+"at  (1)", api.ErrSyntax, 12)
	both := eight + "1" + strings.Repeat(")", 8) + " + " + eight + "2" + strings.Repeat(")", 8)
	checkPlain(t, both, both)
	beside := seven + "(1) + (2)" + strings.Repeat(")", 7)
	checkPlain(t, beside, beside)
}

func TestDepthOfMinus(t *testing.T) {
	eight := strings.Repeat("-", api.MaxDepth)
	for _, fits := range []string{
		eight + "1", "1 - " + eight + "1", eight + "1 * " + eight + "A1", eight + "(" + eight + "1)", "if(" + eight + "1, " + eight + `2, "x")`,
		eight + "at(" + eight + "1) = " + eight + "3", eight + "sum(A1:A2)",
	} {
		checkPlain(t, fits, fits)
	}
	checkFault(t, eight+"-1", api.ErrSyntax, 8)
	checkFault(t, eight+" -", api.ErrSyntax, 9)
	checkFault(t, eight, api.ErrSyntax, 8)
	checkFault(t, "1-"+eight+"-1", api.ErrSyntax, 10)
	checkFault(t, eight+"("+eight+"-1)", api.ErrSyntax, 17)
	checkFault(t, strings.Repeat("- ", 9)+"1", api.ErrSyntax, 16)
}

func TestCellsOfTheSheet(t *testing.T) {
	for column := 'A'; column <= 'Z'; column++ {
		for row := range 12 {
			cell := string(column) + strconv.Itoa(row)
			if column <= 'F' && row >= 1 && row <= 8 {
				checkPlain(t, "1+"+cell, "1 + "+cell)
			} else {
				checkFault(t, "1+"+cell, api.ErrCell, 2)
			}
		}
	}
	for _, cell := range []string{"A01", "A10", "A11", "F80", "A001", "A0001", "Z9999"} {
		checkFault(t, cell, api.ErrCell, 0)
		checkFault(t, "at("+cell+")", api.ErrCell, 3)
	}
	checkPlain(t, `at("A9")`, `at("A9")`)
}

func TestAllRanges(t *testing.T) {
	for a := range 7 * 10 {
		for b := range 7 * 10 {
			from, to := cellName(a%7, a/7), cellName(b%7, b/7)
			columns, rows := b%7-a%7+1, b/7-a/7+1
			known := a%7 < 6 && b%7 < 6 && a/7 >= 1 && a/7 <= 8 && b/7 >= 1 && b/7 <= 8
			if known && columns > 0 && rows > 0 && columns*rows <= 12 {
				checkPlain(t, "sum("+from+":"+to+")", "sum("+from+":"+to+")")
				checkPlain(t, "count("+from+":"+to+")", "count("+from+":"+to+")")
			} else {
				checkFault(t, "sum( "+from+":"+to+")", api.ErrCell, 5)
				checkFault(t, "1+count("+from+":"+to+")", api.ErrCell, 8)
			}
		}
	}
}

func cellName(column, row int) string {
	return string(rune('A'+column)) + strconv.Itoa(row)
}

func TestFirstOfSeveralCells(t *testing.T) {
	checkFault(t, "A1+G1+H1", api.ErrCell, 3)
	checkFault(t, "sum(A1:A2) + sum(B1:A1) + G1", api.ErrCell, 17)
	checkFault(t, "sum(A1:A2) + G1 + sum(B1:A1)", api.ErrCell, 13)
	checkFault(t, "sum(A1:A9) + G1", api.ErrCell, 4)
	checkFault(t, "A1 + sum(G1:H9)", api.ErrCell, 9)
	checkFault(t, "sum(A1:A2) + sum(A1:B2) + A9", api.ErrCell, 26)
	checkFault(t, "if(true, 1, A0)", api.ErrCell, 12)
}

func TestFirstOfSeveralErrors(t *testing.T) {
	checkFault(t, strings.Repeat("?", api.MaxText+1), api.ErrLong, 0)
	checkFault(t, strings.Repeat(")", api.MaxText+1), api.ErrLong, 0)
	checkFault(t, "A9"+strings.Repeat(" ", api.MaxText), api.ErrLong, 0)
	checkFault(t, ") G1 ?", api.ErrToken, 5)
	checkFault(t, "G1 + ? + \"", api.ErrToken, 5)
	checkFault(t, "1 1 \"", api.ErrToken, 4)
	checkFault(t, "---------1 abcdef", api.ErrToken, 11)
	checkFault(t, "G1 foo", api.ErrSyntax, 3)
	checkFault(t, "G1 + H1 +", api.ErrSyntax, 9)
	checkFault(t, "sum(B2:A1) +", api.ErrSyntax, 12)
	checkFault(t, "sum(A1:F8) sum(A1:F8)", api.ErrSyntax, 11)
	checkFault(t, "(((((((((G1)))))))))", api.ErrSyntax, 8)
}
