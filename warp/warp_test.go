package warp_test

import (
	"math"
	"math/rand"
	"slices"
	"testing"

	"shapesearch/api"
	"shapesearch/euclid"
	"shapesearch/warp"
)

func random(r *rand.Rand, n, spread int) []int {
	l := make([]int, n)
	for i := range l {
		l[i] = r.Intn(2*spread+1) - spread
	}
	return l
}

// best returns the least cost of a path up to (i, j) by trying all of them.
func best(x, y []int, band, i, j int) int {
	if i < 0 || j < 0 || i-j > band || j-i > band {
		return math.MaxInt / 2
	}
	d := (x[i] - y[j]) * (x[i] - y[j])
	if i == 0 && j == 0 {
		return d
	}
	return d + min(best(x, y, band, i-1, j-1), best(x, y, band, i-1, j), best(x, y, band, i, j-1))
}

// bestPath follows the rule for paths backward, with the slow costs.
func bestPath(x, y []int, band int) []api.Pair {
	i, j := len(x)-1, len(y)-1
	path := []api.Pair{{I: i, J: j}}
	for i > 0 || j > 0 {
		least, at := math.MaxInt, api.Pair{}
		for _, p := range []api.Pair{{I: i - 1, J: j - 1}, {I: i - 1, J: j}, {I: i, J: j - 1}} {
			if c := best(x, y, band, p.I, p.J); c < least {
				least, at = c, p
			}
		}
		i, j = at.I, at.J
		path = append(path, at)
	}
	slices.Reverse(path)
	return path
}

var wrong = []struct {
	x, y []int
	band int
	e    api.Errno
}{
	{[]int{1}, []int{1, 2}, -1, api.ErrRange},
	{[]int{1}, []int{1, 2}, 33, api.ErrRange},
	{[]int{1}, []int{1, 2}, math.MinInt, api.ErrRange},
	{[]int{1}, []int{1, 2000}, 1, api.ErrLength},
	{make([]int, 33), make([]int, 32), 32, api.ErrLength},
	{[]int{1, 2, 3}, []int{1, 1001}, 0, api.ErrSample},
	{[]int{0, 9}, []int{0, 5, 9}, 0, api.ErrLength},
	{[]int{0, 5, 9, 9}, []int{0, 9}, 1, api.ErrLength},
}

// TestDistance tests P14.1 and P14.2.
func TestDistance(t *testing.T) {
	for i, x := range []struct {
		x, y       []int
		band, want int
	}{
		{[]int{0, 0, 5}, []int{0, 5, 5}, 1, 0},
		{[]int{0, 0, 5}, []int{0, 5, 5}, 0, 25},
		{[]int{0, 9}, []int{0, 5, 9}, 1, 16},
		{[]int{0, 9}, slices.Repeat([]int{0}, 32), 32, 81},
	} {
		if d, e := warp.Distance(x.x, x.y, x.band); d != x.want || e != api.OK {
			t.Errorf("%d: the distance is %d, %d", i, d, e)
		}
	}
	for i, x := range wrong {
		if d, e := warp.Distance(x.x, x.y, x.band); d != 0 || e != x.e {
			t.Errorf("%d: Distance is %d, %d", i, d, e)
		}
		if d, ok := warp.Within(x.x, x.y, x.band, math.MaxInt); d != 0 || ok {
			t.Errorf("%d: Within is %d, %v", i, d, ok)
		}
		if p, e := warp.Path(x.x, x.y, x.band); len(p) > 0 || e != x.e {
			t.Errorf("%d: Path is %v, %d", i, p, e)
		}
		if d, e := warp.Cost(x.x, x.y, x.band, nil); d != 0 || e != x.e {
			t.Errorf("%d: Cost is %d, %d", i, d, e)
		}
	}
	if d, ok := warp.Within([]int{0, 0, 5}, []int{0, 5, 5}, 1, -1); d != 0 || ok {
		t.Errorf("Within -1 is %d, %v", d, ok)
	}
}

// TestSmall tests P14.1 to P14.4 with all paths of short windows.
func TestSmall(t *testing.T) {
	r := rand.New(rand.NewSource(19))
	for range 1500 {
		x, y := random(r, 2+r.Intn(5), 3), random(r, 2+r.Intn(5), 3)
		band := max(len(x)-len(y), len(y)-len(x)) + r.Intn(3)
		want := best(x, y, band, len(x)-1, len(y)-1)
		if d, e := warp.Distance(x, y, band); d != want || e != api.OK {
			t.Fatalf("the distance of %v and %v in %d is %d, %d, want %d", x, y, band, d, e, want)
		}
		if d, ok := warp.Within(x, y, band, want); d != want || !ok {
			t.Fatalf("Within is %d, %v", d, ok)
		}
		if d, ok := warp.Within(x, y, band, want-1); d != 0 || ok {
			t.Fatalf("Within is %d, %v", d, ok)
		}
		path, e := warp.Path(x, y, band)
		if !slices.Equal(path, bestPath(x, y, band)) || e != api.OK {
			t.Fatalf("the path of %v and %v in %d is %v, %d", x, y, band, path, e)
		}
		if c, e := warp.Cost(x, y, band, path); c != want || e != api.OK {
			t.Fatalf("the cost is %d, %d", c, e)
		}
	}
}

// TestLong tests P14.1 with long windows: the distance is that of a path, symmetric, and never more in a wider band.
func TestLong(t *testing.T) {
	r := rand.New(rand.NewSource(20))
	for range 300 {
		x, y := random(r, 20+r.Intn(13), 1000), random(r, 20+r.Intn(13), 1000)
		last := math.MaxInt
		for band := max(len(x)-len(y), len(y)-len(x)); band <= 32; band++ {
			d, _ := warp.Distance(x, y, band)
			back, _ := warp.Distance(y, x, band)
			path, _ := warp.Path(x, y, band)
			if c, e := warp.Cost(x, y, band, path); c != d || d > last || d != back || e != api.OK {
				t.Fatalf("the distance in %d is %d, %d, %d, behind %d", band, d, c, back, last)
			}
			if band == 0 {
				if c, _ := euclid.Distance(x, y); c != d {
					t.Fatalf("without a band the distance is %d, want %d", d, c)
				}
			}
			last = d
		}
	}
}

// TestCost tests P14.4.
func TestCost(t *testing.T) {
	x, y := []int{0, 0, 5}, []int{0, 5, 5}
	p := func(l ...int) []api.Pair {
		var path []api.Pair
		for i := 0; i < len(l); i += 2 {
			path = append(path, api.Pair{I: l[i], J: l[i+1]})
		}
		return path
	}
	for i, v := range []struct {
		band int
		path []api.Pair
		want int
		e    api.Errno
	}{
		{1, p(0, 0, 1, 0, 2, 1, 2, 2), 0, api.OK},
		{0, p(0, 0, 1, 1, 2, 2), 25, api.OK},
		{2, p(0, 0, 0, 1, 0, 2, 1, 2, 2, 2), 75, api.OK},
		{1, p(0, 0, 0, 1, 0, 2, 1, 2, 2, 2), 0, api.ErrPath},
		{0, p(0, 0, 1, 0, 2, 1, 2, 2), 0, api.ErrPath},
		{1, nil, 0, api.ErrPath},
		{2, p(0, 0, 2, 1, 2, 2), 0, api.ErrPath},
		{2, p(0, 0, 1, 2, 2, 2), 0, api.ErrPath},
		{1, p(0, 0, 1, 0, 0, 1, 1, 1, 2, 2), 0, api.ErrPath},
		{1, p(0, 0, 0, 1, 1, 0, 1, 1, 2, 2), 0, api.ErrPath},
		{1, p(0, 0), 0, api.ErrPath},
		{1, p(1, 1, 2, 2), 0, api.ErrPath},
		{1, p(0, 0, 1, 1), 0, api.ErrPath},
		{2, p(0, 0, 2, 2), 0, api.ErrPath},
		{1, p(0, 0, 0, 0, 1, 1, 2, 2), 0, api.ErrPath},
		{1, p(0, 0, 1, 1, 0, 0, 1, 1, 2, 2), 0, api.ErrPath},
		{1, p(0, 0, 1, 1, 2, 2, 3, 3, 2, 2), 0, api.ErrPath},
		{1, p(0, 0, 1, 1, 2, 2, 2, 3), 0, api.ErrPath},
		{1, p(0, 0, math.MinInt, math.MaxInt, 2, 2), 0, api.ErrPath},
	} {
		if c, e := warp.Cost(x, y, v.band, v.path); c != v.want || e != v.e {
			t.Errorf("%d: the cost is %d, %d", i, c, e)
		}
	}
}
