package order_test

import (
	"cmp"
	"testing"

	"shapesearch/api"
	"shapesearch/order"
)

func TestPlaces(t *testing.T) {
	l := []api.Place{{Series: -1, Start: 9}, {Series: 0, Start: 5}, {Series: 0, Start: 7}, {Series: 2, Start: 1}}
	for i, a := range l {
		for j, b := range l {
			if n := order.Places(a, b); n != cmp.Compare(i, j) {
				t.Errorf("Places(%v, %v) is %d", a, b, n)
			}
		}
	}
}
