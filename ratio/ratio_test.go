package ratio_test

import (
	"math"
	"math/big"
	"math/rand"
	"testing"

	"shapesearch/api"
	"shapesearch/ratio"
)

func of(num, den int) api.Ratio { return api.Ratio{Num: num, Den: den} }

var invalid = []api.Ratio{{}, of(2, 4), of(0, 2), of(1, 0), of(-1, 2), of(1, -1), of(api.MaxNum+1, 1), of(1, api.MaxDen+1), of(math.MinInt, 1), of(1, math.MinInt), of(math.MaxInt, math.MaxInt)}

// samples are valid ratios of all sizes, the ends of the range among them.
func samples() []api.Ratio {
	l := []api.Ratio{of(0, 1), of(1, 1), of(api.MaxNum, 1), of(1, api.MaxDen), of(api.MaxNum-1, api.MaxDen-1), of(api.MaxNum-1, 1), of(api.MaxDen-1, api.MaxDen)}
	r := rand.New(rand.NewSource(1))
	for len(l) < 120 {
		if a, e := ratio.Make(r.Intn(1<<(1+r.Intn(61))), 1+r.Intn(1<<(1+r.Intn(59)))); e == api.OK {
			l = append(l, a)
		}
	}
	return l
}

func rat(a api.Ratio) *big.Rat { return big.NewRat(int64(a.Num), int64(a.Den)) }

// TestMake tests P1.1.
func TestMake(t *testing.T) {
	for _, x := range []struct {
		num, den int
		want     api.Ratio
		e        api.Errno
	}{
		{6, 4, of(3, 2), api.OK},
		{0, 7, of(0, 1), api.OK},
		{math.MaxInt, math.MaxInt, of(1, 1), api.OK},
		{api.MaxNum, 1, of(api.MaxNum, 1), api.OK},
		{api.MaxNum, api.MaxDen, of(2, 1), api.OK},
		{1 << 62, 2, of(api.MaxNum, 1), api.OK},
		{2, 1 << 61, of(1, api.MaxDen), api.OK},
		{api.MaxNum + 1, 1, api.Ratio{}, api.ErrRange},
		{1, api.MaxDen + 1, api.Ratio{}, api.ErrRange},
		{1, 0, api.Ratio{}, api.ErrRange},
		{0, 0, api.Ratio{}, api.ErrRange},
		{-2, -4, api.Ratio{}, api.ErrRange},
		{math.MinInt, math.MinInt, api.Ratio{}, api.ErrRange},
	} {
		a, e := ratio.Make(x.num, x.den)
		if a != x.want || e != x.e {
			t.Errorf("Make(%d, %d) is %v, %v", x.num, x.den, a, e)
		}
		if ratio.Valid(a) != (e == api.OK) {
			t.Errorf("Valid(%v) is wrong", a)
		}
	}
	for _, a := range invalid {
		if ratio.Valid(a) {
			t.Errorf("%v is valid", a)
		}
	}
}

// TestCmp tests P1.2.
func TestCmp(t *testing.T) {
	l := samples()
	for _, a := range l {
		for _, b := range l {
			want := rat(a).Cmp(rat(b))
			if ratio.Cmp(a, b) != want || ratio.Less(a, b) != (want < 0) {
				t.Fatalf("Cmp(%v, %v) is %d", a, b, ratio.Cmp(a, b))
			}
		}
		for _, b := range invalid {
			if ratio.Cmp(a, b) != 0 || ratio.Cmp(b, a) != 0 || ratio.Less(a, b) || ratio.Less(b, a) {
				t.Errorf("%v is compared with %v", a, b)
			}
		}
	}
}

// TestLeast tests P1.2.
func TestLeast(t *testing.T) {
	for _, x := range []struct {
		l    []api.Ratio
		want int
	}{
		{nil, -1},
		{[]api.Ratio{of(5, 1)}, 0},
		{[]api.Ratio{of(5, 1), of(1, 3), of(1, 2), of(1, 3)}, 1},
		{[]api.Ratio{of(0, 1), of(2, 4)}, -1},
		{[]api.Ratio{of(1, 0), of(1, 2)}, -1},
	} {
		if i := ratio.Least(x.l); i != x.want {
			t.Errorf("Least(%v) is %d", x.l, i)
		}
	}
}

// TestAdd tests the sums of P1.3.
func TestAdd(t *testing.T) {
	l := samples()
	for _, a := range l {
		for _, b := range l {
			sum := new(big.Rat).Add(rat(a), rat(b))
			want, wantE := api.Ratio{}, api.ErrLimit
			if sum.Num().Cmp(big.NewInt(api.MaxNum)) <= 0 && sum.Denom().Cmp(big.NewInt(api.MaxDen)) <= 0 {
				want, wantE = of(int(sum.Num().Int64()), int(sum.Denom().Int64())), api.OK
			}
			if s, e := ratio.Add(a, b); s != want || e != wantE {
				t.Fatalf("Add(%v, %v) is %v, %v, want %v, %v", a, b, s, e, want, wantE)
			}
		}
		for _, b := range invalid {
			if s, e := ratio.Add(a, b); s != (api.Ratio{}) || e != api.ErrRange {
				t.Errorf("Add(%v, %v) is %v, %v", a, b, s, e)
			}
			if s, e := ratio.Add(b, a); s != (api.Ratio{}) || e != api.ErrRange {
				t.Errorf("Add(%v, %v) is %v, %v", b, a, s, e)
			}
		}
	}
	if s, e := ratio.Add(of(1, api.MaxDen), of(1, api.MaxDen)); s != of(1, api.MaxDen/2) || e != api.OK {
		t.Errorf("cancelled sum: %v, %v", s, e)
	}
}

// TestFloorCeil tests the rounding of P1.3.
func TestFloorCeil(t *testing.T) {
	for _, x := range []struct {
		a           api.Ratio
		floor, ceil int
	}{
		{of(7, 2), 3, 4},
		{of(4, 1), 4, 4},
		{of(0, 1), 0, 0},
		{of(1, api.MaxDen), 0, 1},
		{of(api.MaxNum, 1), api.MaxNum, api.MaxNum},
		{of(api.MaxNum-1, 3), (api.MaxNum - 2) / 3, (api.MaxNum + 1) / 3},
	} {
		if ratio.Floor(x.a) != x.floor || ratio.Ceil(x.a) != x.ceil {
			t.Errorf("%v is rounded to %d and %d", x.a, ratio.Floor(x.a), ratio.Ceil(x.a))
		}
	}
	for _, a := range invalid {
		if ratio.Floor(a) != 0 || ratio.Ceil(a) != 0 {
			t.Errorf("%v is rounded", a)
		}
	}
}

// TestText tests P1.4.
func TestText(t *testing.T) {
	for _, a := range samples() {
		if b, e := ratio.Parse(ratio.Format(a)); b != a || e != api.OK {
			t.Errorf("%v is read as %v, %v", a, b, e)
		}
	}
	for s, a := range map[string]api.Ratio{"3/2": of(3, 2), "0": of(0, 1), "2305843009213693952": of(api.MaxNum, 1)} {
		if ratio.Format(a) != s {
			t.Errorf("Format(%v) is %q", a, ratio.Format(a))
		}
	}
	for _, a := range invalid {
		if ratio.Format(a) != "" {
			t.Errorf("Format(%v) is %q", a, ratio.Format(a))
		}
	}
	for _, s := range []string{"", "/", "6/4", "2/1", "03", "3/02", "-1", "+1", "1/+2", "1/-2", "1/", "/1", "1/2/3", " 1", "1 ", "0/1", "0/5", "1/0", "-0", "1_0", "0x1", "2305843009213693953", "1/1152921504606846977", "18446744073709551617"} {
		if a, e := ratio.Parse(s); a != (api.Ratio{}) || e != api.ErrForm {
			t.Errorf("Parse(%q) is %v, %v", s, a, e)
		}
	}
}
