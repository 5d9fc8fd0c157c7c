package envelope_test

import (
	"math"
	"math/big"
	"math/rand"
	"slices"
	"testing"

	"shapesearch/api"
	"shapesearch/envelope"
	"shapesearch/euclid"
	"shapesearch/pieces"
	"shapesearch/ratio"
	"shapesearch/warp"
)

func random(r *rand.Rand, n, spread int) []int {
	l := make([]int, n)
	for i := range l {
		l[i] = r.Intn(2*spread+1) - spread
	}
	return l
}

// slow returns an envelope by its definition.
func slow(x []int, band, count int) ([]int, []int) {
	var upper, lower []int
	for j := range count {
		near := x[max(0, j-band):min(len(x), j+band+1)]
		upper, lower = append(upper, slices.Max(near)), append(lower, slices.Min(near))
	}
	return upper, lower
}

// TestOf tests P20.1.
func TestOf(t *testing.T) {
	for i, v := range []struct {
		x            []int
		band, count  int
		upper, lower []int
		e            api.Errno
	}{
		{[]int{0, 0, 5}, 1, 3, []int{0, 5, 5}, []int{0, 0, 0}, api.OK},
		{[]int{0, 5, 5}, 1, 3, []int{5, 5, 5}, []int{0, 0, 5}, api.OK},
		{[]int{3, 1, 2}, 0, 3, []int{3, 1, 2}, []int{3, 1, 2}, api.OK},
		{[]int{3, 1, 2}, 1, 4, []int{3, 3, 2, 2}, []int{1, 1, 1, 2}, api.OK},
		{[]int{3, 1, 2}, 1, 2, []int{3, 3}, []int{1, 1}, api.OK},
		{[]int{5}, -1, 0, nil, nil, api.ErrRange},
		{[]int{5, 5}, 33, 2, nil, nil, api.ErrRange},
		{[]int{5}, 1, 0, nil, nil, api.ErrLength},
		{make([]int, 33), 1, 33, nil, nil, api.ErrLength},
		{[]int{5, 1001}, 1, 0, nil, nil, api.ErrSample},
		{[]int{5, 5}, 32, 1, nil, nil, api.ErrLength},
		{[]int{5, 5}, 32, 33, nil, nil, api.ErrLength},
		{[]int{5, 5}, 32, math.MinInt, nil, nil, api.ErrLength},
		{[]int{5, 5}, 32, math.MaxInt, nil, nil, api.ErrLength},
		{[]int{5, 5, 5}, 0, 2, nil, nil, api.ErrLength},
		{[]int{5, 5, 5}, 1, 5, nil, nil, api.ErrLength},
	} {
		if upper, lower, e := envelope.Of(v.x, v.band, v.count); !slices.Equal(upper, v.upper) || !slices.Equal(lower, v.lower) || e != v.e {
			t.Errorf("%d: Of is %v, %v, %d", i, upper, lower, e)
		}
	}
	r := rand.New(rand.NewSource(29))
	for range 3000 {
		n, count := 2+r.Intn(31), 2+r.Intn(31)
		band := min(32, max(n-count, count-n)+r.Intn(10))
		x := random(r, n, 1+r.Intn(10))
		upper, lower, e := envelope.Of(x, band, count)
		if a, b := slow(x, band, count); !slices.Equal(upper, a) || !slices.Equal(lower, b) || e != api.OK {
			t.Fatalf("the envelope of %v within %d for %d is %v, %v, %d", x, band, count, upper, lower, e)
		}
	}
}

func passes(n, low, high int) int { return max(0, n-high, low-n) }

// bounds returns Keogh, Improved and Pieces by their definitions.
func bounds(x, y []int, band, n int) (int, int, *big.Rat) {
	upper, lower := slow(x, band, len(y))
	keogh, projection := 0, slices.Clone(y)
	for j, v := range y {
		d := passes(v, lower[j], upper[j])
		keogh += d * d
		if v > upper[j] {
			projection[j] = upper[j]
		}
		if v < lower[j] {
			projection[j] = lower[j]
		}
	}
	improved := keogh
	above, below := slow(projection, band, len(x))
	for i, v := range x {
		d := passes(v, below[i], above[i])
		improved += d * d
	}
	total := new(big.Rat)
	starts, _ := pieces.Starts(len(y), n)
	for p := range n {
		s, low, high := 0, 0, 0
		for j := starts[p]; j < starts[p+1]; j++ {
			s, low, high = s+y[j], low+lower[j], high+upper[j]
		}
		d := int64(passes(s, low, high))
		total.Add(total, big.NewRat(d*d, int64(starts[p+1]-starts[p])))
	}
	return keogh, improved, total
}

// TestBounds tests P20.2 and P20.3.
func TestBounds(t *testing.T) {
	x, y := []int{0, 0, 5}, []int{0, 5, 9}
	if d, e := envelope.Keogh(x, y, 1); d != 16 || e != api.OK {
		t.Errorf("Keogh is %d, %d", d, e)
	}
	if d, e := envelope.Improved(x, y, 1); d != 16 || e != api.OK {
		t.Errorf("Improved is %d, %d", d, e)
	}
	if a, e := envelope.Pieces(x, y, 1, 1); a != (api.Ratio{Num: 16, Den: 3}) || e != api.OK {
		t.Errorf("Pieces is %v, %d", a, e)
	}
	r := rand.New(rand.NewSource(30))
	whole := func(n int) api.Ratio { return api.Ratio{Num: n, Den: 1} }
	for range 3000 {
		x, y := random(r, 2+r.Intn(31), 1+r.Intn(1000)), random(r, 2+r.Intn(31), 1+r.Intn(1000))
		band := min(32, max(len(x)-len(y), len(y)-len(x))+r.Intn(6)*r.Intn(2))
		n := 1 + r.Intn(min(8, len(y)))
		keogh, improved, total := bounds(x, y, band, n)
		k, e := envelope.Keogh(x, y, band)
		if k != keogh || e != api.OK {
			t.Fatalf("Keogh of %v and %v is %d, %d, want %d", x, y, k, e, keogh)
		}
		i, e := envelope.Improved(x, y, band)
		if i != improved || e != api.OK {
			t.Fatalf("Improved of %v and %v is %d, %d, want %d", x, y, i, e, improved)
		}
		p, e := envelope.Pieces(x, y, band, n)
		if total.Cmp(big.NewRat(int64(p.Num), int64(max(p.Den, 1)))) != 0 || e != api.OK {
			t.Fatalf("Pieces of %v and %v is %v, %d, want %v", x, y, p, e, total)
		}
		d, _ := warp.Distance(x, y, band)
		if ratio.Less(whole(k), p) || k > i || i > d {
			t.Fatalf("%v, %d, %d, %d do not ascend", p, k, i, d)
		}
		if band == 0 {
			d, _ := euclid.Distance(x, y)
			if lower, _ := pieces.Lower(x, y, n); k != d || p != lower {
				t.Fatalf("without a band: %d and %v, want %d and %v", k, p, d, lower)
			}
		}
	}
}

// TestErrors tests the errors of P20.2 and P20.3.
func TestErrors(t *testing.T) {
	for i, v := range []struct {
		x, y    []int
		band, n int
		e       api.Errno
	}{
		{[]int{1}, []int{1, 2}, -1, 0, api.ErrRange},
		{[]int{1}, []int{1, 2}, 33, 1, api.ErrRange},
		{[]int{1}, []int{1, 1001}, 1, 0, api.ErrLength},
		{[]int{1, 2, 3}, []int{1, 1001}, 0, 0, api.ErrSample},
		{[]int{1, 2, 3}, []int{1, 2}, 0, 0, api.ErrLength},
	} {
		if d, e := envelope.Keogh(v.x, v.y, v.band); d != 0 || e != v.e {
			t.Errorf("%d: Keogh is %d, %d", i, d, e)
		}
		if d, e := envelope.Improved(v.x, v.y, v.band); d != 0 || e != v.e {
			t.Errorf("%d: Improved is %d, %d", i, d, e)
		}
		if a, e := envelope.Pieces(v.x, v.y, v.band, v.n); a != (api.Ratio{}) || e != v.e {
			t.Errorf("%d: Pieces is %v, %d", i, a, e)
		}
	}
	for _, n := range []int{0, 3, -1, 9, math.MinInt} {
		if a, e := envelope.Pieces(make([]int, 3), make([]int, 2), 1, n); a != (api.Ratio{}) || e != api.ErrRange {
			t.Errorf("Pieces in %d is %v, %d", n, a, e)
		}
	}
	if _, e := envelope.Pieces(make([]int, 2), make([]int, 3), 1, 3); e != api.OK {
		t.Errorf("Pieces in as many pieces as y has samples: %d", e)
	}
}
