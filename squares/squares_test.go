package squares_test

import (
	"testing"

	"shapesearch/api"
	"shapesearch/squares"
)

func TestSum(t *testing.T) {
	for i, v := range []struct {
		numbers, starts []int
		scale           int
		want            api.Ratio
		e               api.Errno
	}{
		{nil, []int{0}, 1, api.Ratio{Den: 1}, api.OK},
		{[]int{3, -2}, []int{0, 2, 5}, 1, api.Ratio{Num: 35, Den: 6}, api.OK},
		{[]int{3, -2}, []int{0, 2, 5}, 5, api.Ratio{Num: 7, Den: 6}, api.OK},
		{[]int{1}, []int{0, 0}, 1, api.Ratio{}, api.ErrRange},
		{[]int{1 << 30, 1 << 30, 1 << 30}, []int{0, 1, 2, 3}, 1, api.Ratio{}, api.ErrLimit},
	} {
		if a, e := squares.Sum(v.numbers, v.starts, v.scale); a != v.want || e != v.e {
			t.Errorf("%d: Sum is %v, %d", i, a, e)
		}
	}
}
