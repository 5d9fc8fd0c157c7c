package measure_test

import (
	"math"
	"math/rand"
	"testing"

	"shapesearch/api"
	"shapesearch/edit"
	"shapesearch/euclid"
	"shapesearch/measure"
	"shapesearch/normal"
	"shapesearch/ratio"
	"shapesearch/warp"
)

var valid = map[string]api.Measure{
	"euclid": {Kind: 1}, "shifted": {Kind: 2}, "normal": {Kind: 3}, "warp 0": {Kind: 4}, "warp 32": {Kind: 4, Band: 32},
	"edit 0": {Kind: 5}, "edit -5": {Kind: 5, Gap: -5}, "edit 1000": {Kind: 5, Gap: 1000}, "edit -1000": {Kind: 5, Gap: -1000},
}

var invalid = []api.Measure{
	{}, {Kind: -1}, {Kind: 6}, {Kind: 1, Band: 1}, {Kind: 1, Gap: 1}, {Kind: 2, Band: 1}, {Kind: 2, Gap: -1}, {Kind: 3, Band: 1}, {Kind: 3, Gap: 1},
	{Kind: 4, Band: -1}, {Kind: 4, Band: 33}, {Kind: 4, Gap: 1}, {Kind: 5, Band: 1}, {Kind: 5, Gap: 1001}, {Kind: 5, Gap: -1001}, {Kind: math.MinInt, Band: math.MaxInt},
}

// TestCheck tests P17.1 and what P17.3 says of invalid measures.
func TestCheck(t *testing.T) {
	for s, m := range valid {
		if e := measure.Check(m); e != api.OK {
			t.Errorf("%q: %d", s, e)
		}
	}
	for _, m := range invalid {
		if e := measure.Check(m); e != api.ErrMeasure {
			t.Errorf("%v: %d", m, e)
		}
		if a, e := measure.Distance(m, []int{1}, nil); a != (api.Ratio{}) || e != api.ErrMeasure {
			t.Errorf("%v: the distance is %v, %d", m, a, e)
		}
		if s := measure.Format(m); s != "" {
			t.Errorf("%v: the text is %q", m, s)
		}
	}
}

func integer(d int, e api.Errno) (api.Ratio, api.Errno) {
	if e != api.OK {
		return api.Ratio{}, e
	}
	return api.Ratio{Num: d, Den: 1}, e
}

// want returns the distance by the layer of a measure.
func want(m api.Measure, x, y []int) (api.Ratio, api.Errno) {
	switch m.Kind {
	case api.KindEuclid:
		return integer(euclid.Distance(x, y))
	case api.KindShifted:
		return euclid.Shifted(x, y)
	case api.KindNormal:
		return normal.Gap(x, y)
	case api.KindWarp:
		return integer(warp.Distance(x, y, m.Band))
	}
	return integer(edit.Distance(x, y, m.Gap))
}

// TestDistance tests P17.1 and P17.2.
func TestDistance(t *testing.T) {
	r := rand.New(rand.NewSource(24))
	zero := api.Ratio{Den: 1}
	for range 300 {
		x, y := make([]int, 2+r.Intn(3)), make([]int, 2+r.Intn(3))
		for i := range x {
			x[i] = r.Intn(9) - 4
		}
		for i := range y {
			y[i] = r.Intn(9) - 4
		}
		switch r.Intn(9) {
		case 0:
			x[0] = 1001
		case 1:
			y = y[:1]
		}
		for _, m := range valid {
			d, e := want(m, x, y)
			if a, errno := measure.Distance(m, x, y); a != d || errno != e {
				t.Fatalf("%v: the distance of %v and %v is %v, %d, want %v, %d", m, x, y, a, errno, d, e)
			}
			more, _ := ratio.Add(d, api.Ratio{Num: 1, Den: 7})
			for _, limit := range []api.Ratio{d, more, zero, {Num: 1, Den: 2}, {Num: 3, Den: 1}, {}, {Num: 2, Den: 4}, {Num: -1, Den: 1}} {
				within := e == api.OK && ratio.Valid(limit) && ratio.Cmp(d, limit) <= 0
				a, ok := measure.Within(m, x, y, limit)
				if ok != within || ok && a != d || !ok && a != zero {
					t.Fatalf("%v: Within %v of %v and %v is %v, %v", m, limit, x, y, a, ok)
				}
			}
		}
	}
	if a, e := measure.Distance(valid["warp 32"], []int{0, 0, 5}, []int{0, 5, 5}); a != zero || e != api.OK {
		t.Errorf("%v, %d", a, e)
	}
}

// TestText tests P17.3.
func TestText(t *testing.T) {
	for s, m := range valid {
		if measure.Format(m) != s {
			t.Errorf("Format(%v) is %q", m, measure.Format(m))
		}
		if p, e := measure.Parse(s); p != m || e != api.OK {
			t.Errorf("Parse(%q) is %v, %d", s, p, e)
		}
	}
	for _, s := range []string{
		"", " ", "euclid ", "euclid 0", " euclid", "Euclid", "shifted 1", "normal 0", "warp", "warp ", "warp 33", "warp -1", "warp 01", "warp +1", "warp 1 ", "warp  1", "warp 1 1", "warp x", "warp 99999999999999999999",
		"edit", "edit -0", "edit 1001", "edit -1001", "edit 05", "edit +5", "edit 5x", "edit\t5", "warp 1_0", "ed",
	} {
		if m, e := measure.Parse(s); m != (api.Measure{}) || e != api.ErrForm {
			t.Errorf("Parse(%q) is %v, %d", s, m, e)
		}
	}
}
