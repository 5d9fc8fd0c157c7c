package whole_test

import (
	"math"
	"testing"

	"shapesearch/whole"
)

func TestDivisions(t *testing.T) {
	for a := -50; a <= 50; a++ {
		for b := 1; b <= 12; b++ {
			exact := float64(a) / float64(b)
			if n := whole.Floor(a, b); n != int(math.Floor(exact)) {
				t.Errorf("Floor(%d, %d) is %d", a, b, n)
			}
			if n := whole.Ceil(a, b); n != int(math.Ceil(exact)) {
				t.Errorf("Ceil(%d, %d) is %d", a, b, n)
			}
			if n := whole.HalfUp(a, b); n != int(math.Floor(exact+0.5)) {
				t.Errorf("HalfUp(%d, %d) is %d", a, b, n)
			}
		}
	}
}

func TestPasses(t *testing.T) {
	for _, v := range [][4]int{{5, 1, 9, 0}, {1, 1, 9, 0}, {9, 1, 9, 0}, {-2, 1, 9, 3}, {13, 1, 9, 4}, {5, 9, 1, 4}, {6, 9, 1, 5}, {3, 9, 1, 6}} {
		if n := whole.Passes(v[0], v[1], v[2]); n != v[3] {
			t.Errorf("Passes(%d, %d, %d) is %d", v[0], v[1], v[2], n)
		}
	}
}

func TestFold(t *testing.T) {
	for n, u := range map[int]uint64{0: 0, 1: 2, -1: 1, 63: 126, -64: 127, math.MaxInt: math.MaxUint64 - 1, math.MinInt: math.MaxUint64} {
		if whole.Fold(n) != u || whole.Unfold(u) != n {
			t.Errorf("%d is folded to %d, and %d unfolded to %d", n, whole.Fold(n), u, whole.Unfold(u))
		}
	}
}
