package window_test

import (
	"math"
	"math/rand"
	"slices"
	"testing"

	"shapesearch/api"
	"shapesearch/window"
)

func isZero(s api.Sums) bool { return len(s.Sum) == 0 && len(s.Square) == 0 }

// TestOf tests P11.1.
func TestOf(t *testing.T) {
	full := make([]int, api.MaxSeries)
	for i, x := range []struct {
		l           []int
		sum, square []int
		e           api.Errno
	}{
		{[]int{3, -1, 2}, []int{0, 3, 2, 4}, []int{0, 9, 10, 14}, api.OK},
		{nil, []int{0}, []int{0}, api.OK},
		{full, make([]int, 2001), make([]int, 2001), api.OK},
		{append(full[:2000:2000], 1001), nil, nil, api.ErrLimit},
		{append(full[:1999:1999], 1001), nil, nil, api.ErrSample},
		{[]int{api.Missing}, nil, nil, api.ErrSample},
	} {
		if s, e := window.Of(x.l); !slices.Equal(s.Sum, x.sum) || !slices.Equal(s.Square, x.square) || e != x.e {
			t.Errorf("%d: Of is %v, %d", i, s, e)
		}
	}
}

// TestStats tests P11.2.
func TestStats(t *testing.T) {
	s, _ := window.Of([]int{3, -1, 2})
	for i, x := range []struct {
		s       api.Sums
		from, m int
		want    api.Stats
		e       api.Errno
	}{
		{s, 1, 2, api.Stats{Count: 2, Sum: 1, Square: 5}, api.OK},
		{s, 0, 3, api.Stats{Count: 3, Sum: 4, Square: 14}, api.OK},
		{s, 2, 1, api.Stats{Count: 1, Sum: 2, Square: 4}, api.OK},
		{s, -1, 1, api.Stats{}, api.ErrRange},
		{s, 0, 0, api.Stats{}, api.ErrRange},
		{s, 3, 1, api.Stats{}, api.ErrRange},
		{s, 2, 2, api.Stats{}, api.ErrRange},
		{s, 0, 4, api.Stats{}, api.ErrRange},
		{s, math.MaxInt, math.MaxInt, api.Stats{}, api.ErrRange},
		{s, 0, math.MinInt, api.Stats{}, api.ErrRange},
		{api.Sums{}, -1, 0, api.Stats{}, api.ErrForm},
		{api.Sums{Sum: []int{0}, Square: []int{0}}, 0, 1, api.Stats{}, api.ErrRange},
		{api.Sums{Sum: []int{0, 1}, Square: []int{0}}, 0, 1, api.Stats{}, api.ErrForm},
		{api.Sums{Sum: []int{0}, Square: []int{0, 1}}, 0, 1, api.Stats{}, api.ErrForm},
		{api.Sums{Sum: []int{1, 2}, Square: []int{0, 1}}, 0, 1, api.Stats{}, api.ErrForm},
		{api.Sums{Sum: []int{0, 2}, Square: []int{0, 1}}, 0, 1, api.Stats{}, api.ErrForm},
		{api.Sums{Sum: []int{0, 2}, Square: []int{1, 5}}, 0, 1, api.Stats{}, api.ErrForm},
		{api.Sums{Sum: []int{0, 1001}, Square: []int{0, 1002001}}, 0, 1, api.Stats{}, api.ErrForm},
		{api.Sums{Sum: []int{math.MaxInt, math.MinInt}, Square: []int{0, 1}}, 0, 1, api.Stats{}, api.ErrForm},
		{api.Sums{Sum: make([]int, 2002), Square: make([]int, 2002)}, 0, 1, api.Stats{}, api.ErrForm},
		{api.Sums{Sum: make([]int, 2001), Square: make([]int, 2001)}, 1999, 1, api.Stats{Count: 1}, api.OK},
	} {
		if y, e := window.Stats(x.s, x.from, x.m); y != x.want || e != x.e {
			t.Errorf("%d: Stats is %v, %d", i, y, e)
		}
	}
}

// TestVariance tests P11.3.
func TestVariance(t *testing.T) {
	for _, x := range []struct {
		s    api.Stats
		want int
	}{
		{api.Stats{Count: 2, Sum: 1, Square: 5}, 9},
		{api.Stats{Count: 2, Sum: -2, Square: 2}, 0},
		{api.Stats{Count: 1, Sum: 1, Square: 5}, 4},
		{api.Stats{Count: 2, Sum: 2, Square: 1}, 0},
		{api.Stats{Count: 2000, Sum: 0, Square: 2000000000}, 4000000000000},
		{api.Stats{Count: 0}, 0},
		{api.Stats{Count: 2001, Square: 5}, 0},
		{api.Stats{Count: 2, Sum: 2001, Square: 2000000}, 0},
		{api.Stats{Count: 2, Sum: -2001, Square: 2000000}, 0},
		{api.Stats{Count: 2, Square: 2000001}, 0},
		{api.Stats{Count: 2, Square: 2000000}, 4000000},
		{api.Stats{Count: 2, Square: -1}, 0},
		{api.Stats{Count: math.MaxInt, Sum: math.MinInt, Square: math.MaxInt}, 0},
		{api.Stats{Count: 5, Sum: math.MinInt, Square: math.MaxInt}, 0},
	} {
		if v := window.Variance(x.s); v != x.want {
			t.Errorf("Variance(%v) is %d", x.s, v)
		}
	}
}

// TestSlide tests P11.3.
func TestSlide(t *testing.T) {
	r := rand.New(rand.NewSource(14))
	for range 200 {
		l := make([]int, r.Intn(60))
		for i := range l {
			l[i] = r.Intn(2001) - 1000
		}
		m := 2 + r.Intn(31)
		all, e := window.Slide(l, m)
		if e != api.OK || len(all) != max(0, len(l)-m+1) {
			t.Fatalf("Slide has %d windows, %d", len(all), e)
		}
		for i, x := range all {
			want := api.Stats{Count: m}
			for _, n := range l[i : i+m] {
				want.Sum += n
				want.Square += n * n
			}
			if x != want {
				t.Fatalf("the window at %d of %v is %v, want %v", i, l, x, want)
			}
		}
	}
	for i, x := range []struct {
		l []int
		m int
		e api.Errno
	}{
		{make([]int, 2001), 1, api.ErrLimit},
		{[]int{1001}, 1, api.ErrSample},
		{[]int{1, 2, 3}, 1, api.ErrLength},
		{[]int{1, 2, 3}, 33, api.ErrLength},
		{[]int{1, 2, 3}, math.MinInt, api.ErrLength},
		{nil, 2, api.OK},
	} {
		if l, e := window.Slide(x.l, x.m); len(l) > 0 || e != x.e {
			t.Errorf("%d: Slide is %v, %d", i, l, e)
		}
	}
	if s, e := window.Of([]int{5000}); !isZero(s) || e != api.ErrSample {
		t.Errorf("%v, %d", s, e)
	}
}
