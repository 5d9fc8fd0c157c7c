// Package order has the order of places, which several layers need.
package order

import (
	"cmp"

	"shapesearch/api"
)

// Places compares places by their series, and then by their starts.
func Places(a, b api.Place) int {
	return cmp.Or(cmp.Compare(a.Series, b.Series), cmp.Compare(a.Start, b.Start))
}
