package choice_test

import (
	"slices"
	"testing"

	"shapesearch/choice"
)

func TestApart(t *testing.T) {
	starts := []int{5, 6, 9, 5, 8, 2, 1 << 62, 1<<62 - 1}
	for _, v := range []struct {
		count, zone int
		want        []int
	}{
		{9, 3, []int{0, 2, 5, 6}},
		{2, 3, []int{0, 2}},
		{9, 1, []int{0, 1, 2, 4, 5, 6, 7}},
		{0, 1, nil},
	} {
		if l := choice.Apart(starts, v.count, v.zone); !slices.Equal(l, v.want) {
			t.Errorf("Apart with %d and %d is %v", v.count, v.zone, l)
		}
	}
}
