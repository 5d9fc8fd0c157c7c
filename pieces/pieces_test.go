package pieces_test

import (
	"math"
	"math/big"
	"math/rand"
	"slices"
	"testing"

	"shapesearch/api"
	"shapesearch/euclid"
	"shapesearch/pieces"
	"shapesearch/ratio"
)

func random(r *rand.Rand, n, spread int) []int {
	l := make([]int, n)
	for i := range l {
		l[i] = r.Intn(2*spread+1) - spread
	}
	return l
}

// TestStarts tests P18.1.
func TestStarts(t *testing.T) {
	for _, v := range []struct {
		m, n int
		want []int
		e    api.Errno
	}{
		{7, 3, []int{0, 2, 4, 7}, api.OK},
		{2, 2, []int{0, 1, 2}, api.OK},
		{2, 1, []int{0, 2}, api.OK},
		{32, 8, []int{0, 4, 8, 12, 16, 20, 24, 28, 32}, api.OK},
		{31, 8, []int{0, 3, 7, 11, 15, 19, 23, 27, 31}, api.OK},
		{1, 0, nil, api.ErrLength},
		{33, 9, nil, api.ErrLength},
		{math.MinInt, 1, nil, api.ErrLength},
		{math.MaxInt, 1, nil, api.ErrLength},
		{32, 9, nil, api.ErrRange},
		{32, 0, nil, api.ErrRange},
		{3, 4, nil, api.ErrRange},
		{3, math.MinInt, nil, api.ErrRange},
	} {
		if l, e := pieces.Starts(v.m, v.n); !slices.Equal(l, v.want) || e != v.e {
			t.Errorf("Starts(%d, %d) is %v, %d", v.m, v.n, l, e)
		}
	}
}

// TestSums tests P18.2.
func TestSums(t *testing.T) {
	for i, v := range []struct {
		x             []int
		n             int
		sums, centred []int
		e             api.Errno
	}{
		{[]int{1, 2, 3, 4, 5, 6, 7}, 3, []int{3, 7, 18}, []int{-35, -7, 42}, api.OK},
		{[]int{5, -9}, 1, []int{-4}, []int{0}, api.OK},
		{[]int{5, -9}, 2, []int{5, -9}, []int{14, -14}, api.OK},
		{[]int{5}, 0, nil, nil, api.ErrLength},
		{make([]int, 33), 1, nil, nil, api.ErrLength},
		{[]int{5, 1001}, 3, nil, nil, api.ErrSample},
		{[]int{5, 6}, 3, nil, nil, api.ErrRange},
		{make([]int, 32), 9, nil, nil, api.ErrRange},
		{[]int{5, 6}, 0, nil, nil, api.ErrRange},
	} {
		if l, e := pieces.Sums(v.x, v.n); !slices.Equal(l, v.sums) || e != v.e {
			t.Errorf("%d: Sums is %v, %d", i, l, e)
		}
		if l, e := pieces.Centred(v.x, v.n); !slices.Equal(l, v.centred) || e != v.e {
			t.Errorf("%d: Centred is %v, %d", i, l, e)
		}
	}
}

// exact adds up the squares of the differences of sums, divided by scale and the lengths of the pieces.
func exact(s, u, starts []int, scale int) *big.Rat {
	sum := new(big.Rat)
	for i := range s {
		d := int64(s[i] - u[i])
		sum.Add(sum, big.NewRat(d*d, int64(scale*(starts[i+1]-starts[i]))))
	}
	return sum
}

// TestBounds tests P18.3.
func TestBounds(t *testing.T) {
	if a, e := pieces.Lower([]int{0, 0, 4, 4}, []int{1, 1, 0, 0}, 2); a != (api.Ratio{Num: 34, Den: 1}) || e != api.OK {
		t.Errorf("Lower is %v, %d", a, e)
	}
	r := rand.New(rand.NewSource(25))
	for range 2000 {
		m := 2 + r.Intn(31)
		x, y, n := random(r, m, 1000), random(r, m, 1000), 1+r.Intn(min(m, 8))
		starts, _ := pieces.Starts(m, n)
		s, _ := pieces.Sums(x, n)
		u, _ := pieces.Sums(y, n)
		lower, e := pieces.Lower(x, y, n)
		if want := exact(s, u, starts, 1); e != api.OK || want.Cmp(big.NewRat(int64(lower.Num), int64(lower.Den))) != 0 {
			t.Fatalf("Lower of %v and %v is %v, %d", x, y, lower, e)
		}
		s, _ = pieces.Centred(x, n)
		u, _ = pieces.Centred(y, n)
		shifted, e := pieces.Shifted(x, y, n)
		if want := exact(s, u, starts, m*m); e != api.OK || want.Cmp(big.NewRat(int64(shifted.Num), int64(shifted.Den))) != 0 {
			t.Fatalf("Shifted of %v and %v is %v, %d", x, y, shifted, e)
		}
		d, _ := euclid.Distance(x, y)
		best, _ := euclid.Shifted(x, y)
		if ratio.Less(api.Ratio{Num: d, Den: 1}, lower) || ratio.Less(best, shifted) || ratio.Less(lower, shifted) {
			t.Fatalf("%v and %v are no bounds of %d and %v", lower, shifted, d, best)
		}
		if n == m && (lower.Num != d || shifted != best) {
			t.Fatalf("%v and %v are not %d and %v", lower, shifted, d, best)
		}
	}
}

// TestBoundErrors tests the errors of P18.3.
func TestBoundErrors(t *testing.T) {
	for i, v := range []struct {
		x, y []int
		n    int
		e    api.Errno
	}{
		{[]int{1}, []int{1, 5000}, 0, api.ErrLength},
		{nil, nil, 0, api.ErrLength},
		{[]int{1, 2, 3}, []int{1, 1001}, 0, api.ErrSample},
		{[]int{1, 2, 3}, []int{1, 2}, 0, api.ErrLength},
		{[]int{1, 2}, []int{1, 2}, 3, api.ErrRange},
		{[]int{1, 2}, []int{1, 2}, 0, api.ErrRange},
		{make([]int, 32), make([]int, 32), 9, api.ErrRange},
	} {
		if a, e := pieces.Lower(v.x, v.y, v.n); a != (api.Ratio{}) || e != v.e {
			t.Errorf("%d: Lower is %v, %d", i, a, e)
		}
		if a, e := pieces.Shifted(v.x, v.y, v.n); a != (api.Ratio{}) || e != v.e {
			t.Errorf("%d: Shifted is %v, %d", i, a, e)
		}
	}
}
