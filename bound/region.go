package bound

import (
	"slices"

	"shapesearch/api"
	"shapesearch/envelope"
	"shapesearch/limits"
	"shapesearch/pieces"
	"shapesearch/ratio"
	"shapesearch/sketch"
	"shapesearch/squares"
	"shapesearch/whole"
	"shapesearch/word"
)

// Region returns the bound of a region.
func Region(s api.Scheme, q []int, w api.Word) (api.Ratio, api.Errno) {
	intervals, e := word.Region(s, w)
	if e != api.OK {
		return api.Ratio{}, e
	}
	if len(q) != s.Length {
		return api.Ratio{}, api.ErrLength
	}
	if !limits.Samples(q) {
		return api.Ratio{}, api.ErrSample
	}
	if slices.ContainsFunc(intervals, func(l api.Interval) bool { return l.Low > l.High }) {
		return ratio.Make(0, 1)
	}
	// All arguments were checked, so the layers below have no errors.
	if s.Measure.Kind == api.KindNormal {
		sketched, _ := sketch.Of(q, s.Pieces)
		return sketch.Region(sketched, intervals)
	}
	starts, _ := pieces.Starts(s.Length, s.Pieces)
	switch s.Measure.Kind {
	case api.KindShifted:
		sums, _ := pieces.Centred(q, s.Pieces)
		return squares.Sum(passing(sums, sums, between(intervals, starts, s.Length)), starts, s.Length*s.Length)
	case api.KindWarp:
		upper, lower, _ := envelope.Of(q, s.Measure.Band, s.Length)
		most, _ := pieces.Sums(upper, s.Pieces)
		least, _ := pieces.Sums(lower, s.Pieces)
		return squares.Sum(passing(least, most, between(intervals, starts, 1)), starts, 1)
	case api.KindEdit:
		return editRegion(q, between(intervals, starts, 1), starts)
	}
	sums, _ := pieces.Sums(q, s.Pieces)
	return squares.Sum(passing(sums, sums, between(intervals, starts, 1)), starts, 1)
}

// between returns, for each piece, the sums, scaled, that have a coordinate in its interval. An end that stands for no
// end needs no care: no sum of samples is as far away.
func between(intervals []api.Interval, starts []int, scale int) []api.Interval {
	sums := make([]api.Interval, len(intervals))
	for p, l := range intervals {
		by := scale * (starts[p+1] - starts[p])
		sums[p] = api.Interval{Low: by * l.Low, High: by*(l.High+1) - 1}
	}
	return sums
}

// passing returns, for each piece, by how much the interval of its sums lies above most, or below least.
func passing(least, most []int, sums []api.Interval) []int {
	d := make([]int, len(sums))
	for p, l := range sums {
		d[p] = max(0, l.Low-most[p], least[p]-l.High)
	}
	return d
}

// editRegion returns by how much the sum of a window passes the sums of all windows of the region.
func editRegion(q []int, sums []api.Interval, starts []int) (api.Ratio, api.Errno) {
	sum, low, high := 0, 0, 0
	for _, n := range q {
		sum += n
	}
	for p, l := range sums {
		most := api.MaxSample * (starts[p+1] - starts[p])
		low += max(l.Low, -most)
		high += min(l.High, most)
	}
	return ratio.Make(whole.Passes(sum, low, high), 1)
}
