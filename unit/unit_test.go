package unit_test

import (
	"math"
	"math/big"
	"math/rand"
	"strings"
	"testing"

	"shapesearch/api"
	"shapesearch/unit"
)

// TestParse tests P4.1.
func TestParse(t *testing.T) {
	for s, d := range map[string]api.Decimal{
		"-12.50": {Digits: -1250, Places: 2}, "0.05": {Digits: 5, Places: 2}, "0": {}, "0.0": {Places: 1}, "-0.1": {Digits: -1, Places: 1},
		"1000000000": {Digits: 1000000000}, "-1000000000": {Digits: -1000000000}, "0.000001": {Digits: 1, Places: 6}, "1000.000000": {Digits: 1000000000, Places: 6},
		"10": {Digits: 10}, "100.00": {Digits: 10000, Places: 2},
	} {
		if x, e := unit.Parse(s); x != d || e != api.OK {
			t.Errorf("Parse(%q) is %v, %d", s, x, e)
		}
		if unit.Format(d) != s {
			t.Errorf("Format(%v) is %q", d, unit.Format(d))
		}
	}
	long := strings.Repeat("9", 500)
	for s, e := range map[string]api.Errno{
		"": api.ErrForm, "-": api.ErrForm, "-0": api.ErrForm, "00": api.ErrForm, "01": api.ErrForm, "-01": api.ErrForm, "00.5": api.ErrForm, "1.": api.ErrForm, ".5": api.ErrForm, "-.5": api.ErrForm,
		"+1": api.ErrForm, "1e3": api.ErrForm, "-0.0": api.ErrForm, "1.2.3": api.ErrForm, "1..2": api.ErrForm, "--1": api.ErrForm, "1-": api.ErrForm, " 1": api.ErrForm, "1,5": api.ErrForm,
		"0.0000001": api.ErrForm, "1.0000000": api.ErrForm, "10000000000x": api.ErrForm, long + ".": api.ErrForm, "0" + long: api.ErrForm, "1." + long: api.ErrForm,
		"1000000001": api.ErrRange, "100000000.01": api.ErrRange, "-1000000001": api.ErrRange, long: api.ErrRange, "-" + long + ".5": api.ErrRange, "9223372036854775817": api.ErrRange,
	} {
		if x, errno := unit.Parse(s); x != (api.Decimal{}) || errno != e {
			t.Errorf("Parse(%q) is %v, %d", s, x, errno)
		}
	}
}

// TestFormat tests P4.1.
func TestFormat(t *testing.T) {
	r := rand.New(rand.NewSource(5))
	for range 5000 {
		d := api.Decimal{Digits: r.Intn(1<<(1+r.Intn(29))) * (1 - 2*r.Intn(2)), Places: r.Intn(7)}
		if x, e := unit.Parse(unit.Format(d)); x != d || e != api.OK {
			t.Fatalf("%v is %q, which is read as %v, %d", d, unit.Format(d), x, e)
		}
	}
	for _, d := range []api.Decimal{{Digits: 1000000001}, {Digits: -1000000001}, {Places: -1}, {Places: 7}, {Digits: math.MinInt}} {
		if unit.Format(d) != "" {
			t.Errorf("Format(%v) is %q", d, unit.Format(d))
		}
	}
}

var invalid = []api.Unit{
	{}, {Mul: 1, Div: 1}, {Name: "abcdefghijklm", Mul: 1, Div: 1}, {Name: "A", Mul: 1, Div: 1}, {Name: "a1", Mul: 1, Div: 1}, {Name: "é", Mul: 1, Div: 1},
	{Name: "a", Mul: 0, Div: 1}, {Name: "a", Mul: 1000001, Div: 1}, {Name: "a", Mul: 1, Div: 0}, {Name: "a", Mul: 1, Div: 1000001},
	{Name: "a", Mul: 1, Div: 1, Add: 1000000001}, {Name: "a", Mul: 1, Div: 1, Add: -1000000001}, {Name: "a", Mul: 1, Div: 1, Add: math.MinInt},
}

// TestValid tests P4.2.
func TestValid(t *testing.T) {
	for _, u := range []api.Unit{{Name: "abcdefghijkl", Mul: 1000000, Add: 1000000000, Div: 1000000}, {Name: "z", Mul: 1, Add: -1000000000, Div: 1}} {
		if !unit.Valid(u) {
			t.Errorf("%v is not valid", u)
		}
	}
	for _, u := range invalid {
		if unit.Valid(u) {
			t.Errorf("%v is valid", u)
		}
		if n, e := unit.Convert(api.Decimal{Digits: 1}, u); n != 0 || e != api.ErrUnit {
			t.Errorf("Convert with %v is %d, %d", u, n, e)
		}
		if n, e := unit.Convert(api.Decimal{Places: 7}, u); n != 0 || e != api.ErrForm {
			t.Errorf("Convert with %v is %d, %d", u, n, e)
		}
	}
}

// TestConvert tests P4.2.
func TestConvert(t *testing.T) {
	raw, warm := api.Unit{Name: "raw", Mul: 1, Div: 1}, api.Unit{Name: "c", Mul: 9, Add: 160, Div: 5}
	for _, x := range []struct {
		text string
		u    api.Unit
		want int
		e    api.Errno
	}{
		{"2.5", raw, 3, api.OK}, {"-2.5", raw, -2, api.OK}, {"-2.500001", raw, -3, api.OK}, {"36.6", warm, 98, api.OK},
		{"0.5", raw, 1, api.OK}, {"0.50", raw, 1, api.OK}, {"0.500", raw, 1, api.OK}, {"0.5000", raw, 1, api.OK}, {"0.50000", raw, 1, api.OK}, {"0.500000", raw, 1, api.OK}, {"0.499999", raw, 0, api.OK},
		{"1000.499999", raw, 0, api.ErrForm}, {"1000.49999", raw, 1000, api.OK}, {"-1000.5", raw, -1000, api.OK},
		{"1000.5", raw, 0, api.ErrSample}, {"1001", raw, 0, api.ErrSample}, {"-1001", raw, 0, api.ErrSample},
		{"1000000000", api.Unit{Name: "k", Mul: 1000000, Add: 1000000000, Div: 1000000}, 0, api.ErrSample},
	} {
		d, e := unit.Parse(x.text)
		if e != api.OK {
			d = api.Decimal{Digits: 1, Places: -1}
		}
		if n, e := unit.Convert(d, x.u); n != x.want || e != x.e {
			t.Errorf("Convert(%q) is %d, %d", x.text, n, e)
		}
	}
	r := rand.New(rand.NewSource(6))
	for range 5000 {
		d := api.Decimal{Digits: r.Intn(2000001) - 1000000, Places: r.Intn(7)}
		u := api.Unit{Name: "x", Mul: 1 + r.Intn(1000000), Add: r.Intn(2000000001) - 1000000000, Div: 1 + r.Intn(1000000)}
		want, ok := exact(d, u)
		n, e := unit.Convert(d, u)
		if ok && (n != want || e != api.OK) || !ok && (n != 0 || e != api.ErrSample) {
			t.Fatalf("Convert(%v, %v) is %d, %d, want %d", d, u, n, e, want)
		}
	}
}

// exact computes a conversion with fractions: the integer below the value and a half.
func exact(d api.Decimal, u api.Unit) (int, bool) {
	power := int64(math.Pow10(d.Places))
	x := big.NewRat(int64(d.Digits), power)
	x.Mul(x, big.NewRat(int64(u.Mul), 1)).Add(x, big.NewRat(int64(u.Add), 1)).Quo(x, big.NewRat(int64(u.Div), 1)).Add(x, big.NewRat(1, 2))
	n := int(new(big.Int).Div(x.Num(), x.Denom()).Int64())
	return n, n >= -1000 && n <= 1000
}
