package order_test

import (
	"cmp"
	"testing"

	"shapesearch/api"
	"shapesearch/order"
)

func TestOrders(t *testing.T) {
	l := []api.Place{{Series: -1, Start: 9}, {Series: 0, Start: 5}, {Series: 0, Start: 7}, {Series: 2, Start: 1}}
	for i, a := range l {
		for j, b := range l {
			if n := order.Places(a, b); n != cmp.Compare(i, j) {
				t.Errorf("Places(%v, %v) is %d", a, b, n)
			}
			near, far := api.Ratio{Num: 1, Den: 3}, api.Ratio{Num: 1, Den: 2}
			if n := order.Hits(api.Hit{Distance: far, Place: a}, api.Hit{Distance: far, Place: b}); n != cmp.Compare(i, j) {
				t.Errorf("Hits of %v and %v is %d", a, b, n)
			}
			if order.Hits(api.Hit{Distance: near, Place: a}, api.Hit{Distance: far, Place: b}) != -1 || order.Hits(api.Hit{Distance: far, Place: a}, api.Hit{Distance: near, Place: b}) != 1 {
				t.Errorf("Hits of %v and %v is wrong", a, b)
			}
		}
	}
}
