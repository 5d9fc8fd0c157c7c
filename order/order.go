// Package order has the orders of places and hits, which several layers need.
package order

import (
	"cmp"

	"shapesearch/api"
	"shapesearch/ratio"
)

// Places compares places by their series, and then by their starts.
func Places(a, b api.Place) int {
	return cmp.Or(cmp.Compare(a.Series, b.Series), cmp.Compare(a.Start, b.Start))
}

// Hits compares hits by their distances, and then by their places.
func Hits(a, b api.Hit) int {
	if c := ratio.Cmp(a.Distance, b.Distance); c != 0 {
		return c
	}
	return Places(a.Place, b.Place)
}
