package values

import (
	"math"
	"math/big"
	"testing"

	"sheets/api"
)

// edges has the numbers at which a sum, a product or a quotient may come to one that is none of 64 bits.
func edges() []int64 {
	list := []int64{math.MinInt64, math.MaxInt64, 0}
	for shift := 0; shift < 63; shift += 3 {
		for _, near := range []int64{-1, 0, 1} {
			list = append(list, int64(1)<<shift+near, -(int64(1)<<shift + near))
		}
	}
	return append(list, 3037000499, 3037000500, -3037000499, -3037000500, math.MinInt64+1, math.MinInt64/2, math.MinInt64/2-1, math.MaxInt64/2, math.MaxInt64/2+1)
}

func fits(number *big.Int) api.Value {
	if !number.IsInt64() {
		return Error(api.Over)
	}
	return Int(number.Int64())
}

func TestNumbers(t *testing.T) {
	for _, a := range edges() {
		x := big.NewInt(a)
		if got, want := Negate(Int(a)), fits(new(big.Int).Neg(x)); got != want {
			t.Errorf("Negate(%d) = %v, want %v", a, got, want)
		}
		for _, b := range edges() {
			y := big.NewInt(b)
			quotient := Error(api.Div)
			if b != 0 {
				quotient = fits(new(big.Int).Quo(x, y))
			}
			for _, c := range []struct {
				sign      string
				got, want api.Value
			}{
				{"+", Add(Int(a), Int(b)), fits(new(big.Int).Add(x, y))},
				{"-", Subtract(Int(a), Int(b)), fits(new(big.Int).Sub(x, y))},
				{"*", Multiply(Int(a), Int(b)), fits(new(big.Int).Mul(x, y))},
				{"/", Divide(Int(a), Int(b)), quotient},
				{"=", Equal(Int(a), Int(b)), Bool(x.Cmp(y) == 0)},
				{"<", Less(Int(a), Int(b)), Bool(x.Cmp(y) < 0)},
			} {
				if c.got != c.want {
					t.Errorf("%d %s %d = %v, want %v", a, c.sign, b, c.got, c.want)
				}
			}
		}
	}
}

func TestKinds(t *testing.T) {
	list := []api.Value{Int(1), Int(0), Bool(true), Bool(false), Text("1"), Text("")}
	wrong := Error(api.Type)
	for _, a := range list {
		if got := Negate(a); (got == wrong) != (a.Kind != api.Int) {
			t.Errorf("Negate(%v) = %v", a, got)
		}
		for _, b := range list {
			ints, texts := a.Kind == api.Int && b.Kind == api.Int, a.Kind == api.Text && b.Kind == api.Text
			for _, c := range []struct {
				sign  string
				got   api.Value
				right bool
			}{
				{"+", Add(a, b), ints}, {"-", Subtract(a, b), ints}, {"*", Multiply(a, b), ints}, {"/", Divide(a, b), ints}, {"&", Join(a, b), texts},
				{"=", Equal(a, b), a.Kind == b.Kind}, {"<", Less(a, b), ints || texts},
			} {
				if (c.got == wrong) == c.right {
					t.Errorf("%v %s %v = %v", a, c.sign, b, c.got)
				}
			}
		}
	}
}

func TestJoinGoesToMaxString(t *testing.T) {
	text := "12345678901234567890x"
	for first := range api.MaxString + 1 {
		for second := range api.MaxString + 1 {
			want := Error(api.Over)
			if first+second <= api.MaxString {
				want = Text(text[:first] + text[:second])
			}
			if got := Join(Text(text[:first]), Text(text[:second])); got != want {
				t.Errorf("Join of %d and %d bytes = %v, want %v", first, second, got, want)
			}
		}
	}
}

func TestLessGoesByteByByte(t *testing.T) {
	list := []string{"", " ", "1", "10", "9", "A", "AA", "B", "a", "~"}
	for i, first := range list {
		for k, second := range list {
			if got := Less(Text(first), Text(second)); got != Bool(i < k) {
				t.Errorf("%q < %q = %v", first, second, got)
			}
		}
	}
}

func TestShow(t *testing.T) {
	for want, value := range map[string]api.Value{
		"": {}, "0": Int(0), "-5": Int(-5), "9223372036854775807": Int(math.MaxInt64), "-9223372036854775808": Int(math.MinInt64), "true": Bool(true), "false": Bool(false), `""`: Text(""), `"a b"`: Text("a b"),
		"#OVER": Error(api.Over), "#DIV": Error(api.Div), "#REF": Error(api.Ref), "#TYPE": Error(api.Type), "#CYCLE": Error(api.Cycle),
	} {
		if got := Show(value); got != want {
			t.Errorf("Show(%v) = %q, want %q", value, got, want)
		}
	}
}
