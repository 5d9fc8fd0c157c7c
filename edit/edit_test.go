package edit_test

import (
	"math"
	"math/rand"
	"slices"
	"testing"

	"shapesearch/api"
	"shapesearch/edit"
)

func random(r *rand.Rand, n, spread int) []int {
	l := make([]int, n)
	for i := range l {
		l[i] = r.Intn(2*spread+1) - spread
	}
	return l
}

func abs(n int) int { return max(n, -n) }

// best returns the least cost by trying all alignments.
func best(x, y []int, gap int) int {
	least := math.MaxInt
	if len(x) == 0 && len(y) == 0 {
		return 0
	}
	if len(x) > 0 && len(y) > 0 {
		least = abs(x[len(x)-1]-y[len(y)-1]) + best(x[:len(x)-1], y[:len(y)-1], gap)
	}
	if len(x) > 0 {
		least = min(least, abs(x[len(x)-1]-gap)+best(x[:len(x)-1], y, gap))
	}
	if len(y) > 0 {
		least = min(least, abs(y[len(y)-1]-gap)+best(x, y[:len(y)-1], gap))
	}
	return least
}

// bestSteps follows the rule for alignments backward, with the slow costs.
func bestSteps(x, y []int, gap int) []int {
	if len(x) == 0 && len(y) == 0 {
		return nil
	}
	cost := best(x, y, gap)
	if len(x) > 0 && len(y) > 0 && abs(x[len(x)-1]-y[len(y)-1])+best(x[:len(x)-1], y[:len(y)-1], gap) == cost {
		return append(bestSteps(x[:len(x)-1], y[:len(y)-1], gap), api.StepBoth)
	}
	if len(x) > 0 && abs(x[len(x)-1]-gap)+best(x[:len(x)-1], y, gap) == cost {
		return append(bestSteps(x[:len(x)-1], y, gap), api.StepLeft)
	}
	return append(bestSteps(x, y[:len(y)-1], gap), api.StepRight)
}

// TestExamples tests P15.1 to P15.3 by the examples, and errors.
func TestExamples(t *testing.T) {
	const b, l, r = api.StepBoth, api.StepLeft, api.StepRight
	for i, v := range []struct {
		x, y      []int
		gap, want int
		steps     []int
		e         api.Errno
	}{
		{[]int{0, 3}, []int{3, 0}, 0, 0, []int{l, b, r}, api.OK},
		{[]int{1, 2, 3}, []int{1, 3}, 0, 2, []int{l, b, b}, api.OK},
		{[]int{1, 2, 3}, []int{1, 3}, 2, 0, []int{b, l, b}, api.OK},
		{[]int{1, 3}, []int{1, 2, 3}, 2, 0, []int{b, r, b}, api.OK},
		{slices.Repeat([]int{1000}, 32), slices.Repeat([]int{1000}, 2), -1000, 60000, append(slices.Repeat([]int{l}, 30), b, b), api.OK},
		{[]int{1}, []int{1, 2}, 1001, 0, nil, api.ErrRange},
		{[]int{1}, []int{1, 2}, math.MinInt, 0, nil, api.ErrRange},
		{[]int{1}, []int{1, 2000}, 0, 0, nil, api.ErrLength},
		{[]int{1, 2000}, make([]int, 33), 0, 0, nil, api.ErrLength},
		{[]int{1, 2, 3}, []int{1, 1001}, 0, 0, nil, api.ErrSample},
	} {
		if d, e := edit.Distance(v.x, v.y, v.gap); d != v.want || e != v.e {
			t.Errorf("%d: the distance is %d, %d", i, d, e)
		}
		if s, e := edit.Align(v.x, v.y, v.gap); !slices.Equal(s, v.steps) || e != v.e {
			t.Errorf("%d: the alignment is %v, %d", i, s, e)
		}
		if c, e := edit.Cost(v.x, v.y, v.gap, v.steps); c != v.want || e != v.e {
			t.Errorf("%d: the cost is %d, %d", i, c, e)
		}
	}
}

// TestSmall tests P15.1 to P15.3 with all alignments of short windows.
func TestSmall(t *testing.T) {
	r := rand.New(rand.NewSource(21))
	for range 1500 {
		x, y, gap := random(r, 2+r.Intn(4), 4), random(r, 2+r.Intn(4), 4), r.Intn(9)-4
		want := best(x, y, gap)
		if d, e := edit.Distance(x, y, gap); d != want || e != api.OK {
			t.Fatalf("the distance of %v and %v with %d is %d, %d, want %d", x, y, gap, d, e, want)
		}
		s, e := edit.Align(x, y, gap)
		if !slices.Equal(s, bestSteps(x, y, gap)) || e != api.OK {
			t.Fatalf("the alignment of %v and %v with %d is %v, %d", x, y, gap, s, e)
		}
		if c, e := edit.Cost(x, y, gap, s); c != want || e != api.OK {
			t.Fatalf("the cost is %d, %d", c, e)
		}
	}
}

// TestTriangle tests P15.1 with long windows.
func TestTriangle(t *testing.T) {
	r := rand.New(rand.NewSource(22))
	for range 500 {
		x, y, z := random(r, 2+r.Intn(31), 1000), random(r, 2+r.Intn(31), 1000), random(r, 2+r.Intn(31), 1000)
		gap := r.Intn(2001) - 1000
		a, _ := edit.Distance(x, y, gap)
		b, _ := edit.Distance(y, z, gap)
		c, _ := edit.Distance(x, z, gap)
		back, _ := edit.Distance(y, x, gap)
		if c > a+b || a != back {
			t.Fatalf("distances %d, %d, %d, %d", a, b, c, back)
		}
	}
}

// TestCost tests P15.3.
func TestCost(t *testing.T) {
	x, y := []int{1, 5}, []int{2, 9, 3}
	for i, v := range []struct {
		steps []int
		want  int
		e     api.Errno
	}{
		{[]int{1, 3, 1}, 1 + 9 + 2, api.OK},
		{[]int{2, 2, 3, 3, 3}, 20, api.OK},
		{[]int{3, 3, 3, 2, 2}, 20, api.OK},
		{nil, 0, api.ErrPath},
		{[]int{1, 1}, 0, api.ErrPath},
		{[]int{1, 3, 3}, 0, api.ErrPath},
		{[]int{1, 1, 1}, 0, api.ErrPath},
		{[]int{3, 3, 3, 1}, 0, api.ErrPath},
		{[]int{1, 3, 1, 2}, 0, api.ErrPath},
		{[]int{1, 3, 1, 3}, 0, api.ErrPath},
		{[]int{0, 1, 3, 1}, 0, api.ErrPath},
		{[]int{1, 3, 4}, 0, api.ErrPath},
		{[]int{1, 3, 1, math.MinInt}, 0, api.ErrPath},
	} {
		if c, e := edit.Cost(x, y, 0, v.steps); c != v.want || e != v.e {
			t.Errorf("%d: the cost is %d, %d", i, c, e)
		}
	}
}
