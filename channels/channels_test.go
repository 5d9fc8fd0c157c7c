package channels_test

import (
	"math"
	"math/rand"
	"slices"
	"testing"

	"shapesearch/api"
	"shapesearch/channels"
	"shapesearch/euclid"
	"shapesearch/normal"
	"shapesearch/ratio"
	"shapesearch/warp"
)

func random(r *rand.Rand, count, n int) [][]int {
	x := make([][]int, count)
	for c := range x {
		x[c] = make([]int, n)
		for i := range x[c] {
			x[c][i] = r.Intn(7) - 3
		}
	}
	return x
}

// TestErrors tests P16.1.
func TestErrors(t *testing.T) {
	good, long := []int{1, 2, 3}, []int{1, 2, 3, 4}
	bundle := func(l ...[]int) [][]int { return l }
	for i, v := range []struct {
		x, y     [][]int
		band     int
		e, bandE api.Errno
	}{
		{bundle(good), bundle(good), 0, api.OK, api.OK},
		{bundle(good, good, good, good), bundle(good, good, good, good), 32, api.OK, api.OK},
		{nil, bundle(good), -1, api.ErrLimit, api.ErrRange},
		{bundle(good), nil, 33, api.ErrLimit, api.ErrRange},
		{bundle(good), bundle([]int{1}), math.MinInt, api.ErrLength, api.ErrRange},
		{bundle([]int{1}), bundle(good, good, good, good, good), 0, api.ErrLimit, api.ErrLimit},
		{bundle([]int{1001, 1}), bundle(good, []int{1}), 0, api.ErrLength, api.ErrLength},
		{bundle(make([]int, 33)), bundle(good), 32, api.ErrLength, api.ErrLength},
		{bundle(good, long), bundle(good, []int{1, 2, 1001}), 0, api.ErrSample, api.ErrSample},
		{bundle(good, good), bundle([]int{1, 2, math.MinInt}), 0, api.ErrSample, api.ErrSample},
		{bundle(good, long), bundle(good, good), 1, api.ErrLength, api.ErrLength},
		{bundle(good, good), bundle(good, long), 1, api.ErrLength, api.ErrLength},
		{bundle(good, good), bundle(good), 1, api.ErrLength, api.ErrLength},
		{bundle(good, good), bundle(long, long), 0, api.ErrLength, api.ErrLength},
		{bundle(good, good), bundle(long, long), 1, api.ErrLength, api.OK},
		{bundle(long, long), bundle(good, good), 1, api.ErrLength, api.OK},
	} {
		d, e := channels.Euclid(v.x, v.y)
		if e != v.e || e != api.OK && d != 0 {
			t.Errorf("%d: Euclid is %d, %d", i, d, e)
		}
		if a, e := channels.Greatest(v.x, v.y); e != v.e || e != api.OK && a != (api.Ratio{}) {
			t.Errorf("%d: Greatest is %v, %d", i, a, e)
		}
		if d, e := channels.Together(v.x, v.y, v.band); e != v.bandE || e != api.OK && d != 0 {
			t.Errorf("%d: Together is %d, %d", i, d, e)
		}
		if d, e := channels.Apart(v.x, v.y, v.band); e != v.bandE || e != api.OK && d != 0 {
			t.Errorf("%d: Apart is %d, %d", i, d, e)
		}
	}
}

// TestExample tests P16.2 by the example of the chapter.
func TestExample(t *testing.T) {
	x, y := [][]int{{0, 0, 5}, {0, 5, 5}}, [][]int{{0, 5, 5}, {0, 0, 5}}
	if d, e := channels.Apart(x, y, 1); d != 0 || e != api.OK {
		t.Errorf("Apart is %d, %d", d, e)
	}
	if d, e := channels.Together(x, y, 1); d != 50 || e != api.OK {
		t.Errorf("Together is %d, %d", d, e)
	}
	if d, e := channels.Euclid(x, y); d != 50 || e != api.OK {
		t.Errorf("Euclid is %d, %d", d, e)
	}
	if a, e := channels.Greatest(x, y); a != (api.Ratio{Num: 3, Den: 4}) || e != api.OK {
		t.Errorf("Greatest is %v, %d", a, e)
	}
}

// together returns the least cost of one path up to (i, j) by trying all of them.
func together(x, y [][]int, band, i, j int) int {
	if i < 0 || j < 0 || i-j > band || j-i > band {
		return math.MaxInt / 2
	}
	d := 0
	for c := range x {
		d += (x[c][i] - y[c][j]) * (x[c][i] - y[c][j])
	}
	if i == 0 && j == 0 {
		return d
	}
	return d + min(together(x, y, band, i-1, j-1), together(x, y, band, i-1, j), together(x, y, band, i, j-1))
}

// TestRandom tests P16.2 against the layers below, and against all paths.
func TestRandom(t *testing.T) {
	r := rand.New(rand.NewSource(23))
	for range 500 {
		count, n := 1+r.Intn(4), 2+r.Intn(4)
		x, y := random(r, count, n), random(r, count, n)
		band := r.Intn(3)
		sum, apart, greatest := 0, 0, api.Ratio{Den: 1}
		for c := range x {
			d, _ := euclid.Distance(x[c], y[c])
			sum += d
			d, _ = warp.Distance(x[c], y[c], band)
			apart += d
			if a, _ := normal.Gap(x[c], y[c]); ratio.Less(greatest, a) {
				greatest = a
			}
		}
		if d, _ := channels.Euclid(x, y); d != sum {
			t.Fatalf("Euclid is %d, want %d", d, sum)
		}
		if d, _ := channels.Apart(x, y, band); d != apart {
			t.Fatalf("Apart is %d, want %d", d, apart)
		}
		if a, _ := channels.Greatest(x, y); a != greatest {
			t.Fatalf("Greatest is %v, want %v", a, greatest)
		}
		d, _ := channels.Together(x, y, band)
		if want := together(x, y, band, n-1, n-1); d != want || apart > d || d > sum {
			t.Fatalf("Together is %d, want %d from %d to %d", d, want, apart, sum)
		}
		slices.Reverse(x)
		slices.Reverse(y)
		if back, _ := channels.Together(x, y, band); back != d {
			t.Fatalf("Together is %d with the channels in another order, and not %d", back, d)
		}
		longer := random(r, count, n+2)
		d, e := channels.Together(x, longer, 2)
		if want := together(x, longer, 2, n-1, n+1); d != want || e != api.OK {
			t.Fatalf("Together is %d, %d, want %d", d, e, want)
		}
	}
}
