// Package squares adds up what the bounds by pieces have in common.
package squares

import (
	"shapesearch/api"
	"shapesearch/ratio"
)

// Sum returns the sum of the squares of some numbers, one for each piece, each divided by scale and by the length of
// its piece. The piece i is from starts[i] to starts[i+1].
func Sum(numbers, starts []int, scale int) (api.Ratio, api.Errno) {
	total := api.Ratio{Num: 0, Den: 1}
	for i, n := range numbers {
		part, e := ratio.Make(n*n, scale*(starts[i+1]-starts[i]))
		if e != api.OK {
			return api.Ratio{}, e
		}
		if total, e = ratio.Add(total, part); e != api.OK {
			return api.Ratio{}, e
		}
	}
	return total, api.OK
}
