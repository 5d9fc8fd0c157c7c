package root_test

import (
	"math"
	"math/big"
	"math/rand"
	"testing"

	"shapesearch/api"
	"shapesearch/root"
)

// TestRoots tests P2.1.
func TestRoots(t *testing.T) {
	l := []int{0, 1, 2, 3, 4, 8, 9, api.MaxRoot, api.MaxRoot - 1, 1<<62 - 1<<32, (1<<31 - 1) * (1<<31 - 1), (1<<31-1)*(1<<31-1) - 1}
	r := rand.New(rand.NewSource(2))
	for range 5000 {
		n := r.Intn(1 << (1 + r.Intn(62)))
		s := r.Intn(1 << 31)
		l = append(l, n, s*s, max(s*s-1, 0), s*s+1)
	}
	for _, n := range l {
		floor := int(new(big.Int).Sqrt(big.NewInt(int64(n))).Int64())
		ceil := floor
		if floor*floor < n {
			ceil++
		}
		if root.Floor(n) != floor || root.Ceil(n) != ceil {
			t.Errorf("roots of %d are %d and %d, want %d and %d", n, root.Floor(n), root.Ceil(n), floor, ceil)
		}
	}
	for _, n := range []int{-1, -4, math.MinInt, api.MaxRoot + 1, math.MaxInt} {
		if root.Floor(n) != 0 || root.Ceil(n) != 0 {
			t.Errorf("roots of %d are %d and %d", n, root.Floor(n), root.Ceil(n))
		}
	}
}

// atMost reports whether q is at most t divided by the root of e.
func atMost(q, t, e int) bool {
	square := func(n int) *big.Int { return new(big.Int).Mul(big.NewInt(int64(n)), big.NewInt(int64(n))) }
	left, right := square(q).Mul(square(q), big.NewInt(int64(e))), square(t)
	if q < 0 {
		return t >= 0 || left.Cmp(right) >= 0
	}
	return t >= 0 && left.Cmp(right) <= 0
}

// TestQuotient tests P2.2.
func TestQuotient(t *testing.T) {
	for _, x := range []struct {
		t, e, want int
		errno      api.Errno
	}{
		{7, 4, 3, api.OK},
		{-7, 4, -4, api.OK},
		{-8, 4, -4, api.OK},
		{10, 2, 7, api.OK},
		{-10, 2, -8, api.OK},
		{0, 1, 0, api.OK},
		{1 << 31, 1, 1 << 31, api.OK},
		{-1 << 31, 1, -1 << 31, api.OK},
		{1 << 31, api.MaxRoot, 1, api.OK},
		{-1, api.MaxRoot, -1, api.OK},
		{1, 0, 0, api.ErrRange},
		{1, api.MaxRoot + 1, 0, api.ErrRange},
		{1<<31 + 1, 1, 0, api.ErrRange},
		{-1<<31 - 1, 1, 0, api.ErrRange},
		{math.MinInt, 1, 0, api.ErrRange},
		{0, math.MinInt, 0, api.ErrRange},
	} {
		if q, e := root.Quotient(x.t, x.e); q != x.want || e != x.errno {
			t.Errorf("Quotient(%d, %d) is %d, %d", x.t, x.e, q, e)
		}
	}
	r := rand.New(rand.NewSource(3))
	for range 20000 {
		a, e := r.Intn(1<<(1+r.Intn(31)))*(1-2*r.Intn(2)), 1+r.Intn(1<<(1+r.Intn(61)))
		q, errno := root.Quotient(a, e)
		if errno != api.OK || !atMost(q, a, e) || atMost(q+1, a, e) {
			t.Fatalf("Quotient(%d, %d) is %d, %d", a, e, q, errno)
		}
	}
}
