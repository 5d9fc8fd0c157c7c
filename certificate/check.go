package certificate

import (
	"slices"

	"shapesearch/api"
	"shapesearch/bound"
	"shapesearch/frontier"
	"shapesearch/limits"
	"shapesearch/measure"
	"shapesearch/ratio"
	"shapesearch/store"
	"shapesearch/word"
)

// CheckNearest checks a proof of the nearest windows, and returns them.
func CheckNearest(s api.Scheme, st api.Store, m api.Measure, query []int, count int, l []api.Block) ([]api.Hit, api.Errno) {
	if e := checkQuestion(s, st, m, query); e != api.OK {
		return nil, e
	}
	if e := limits.Count(count); e != api.OK {
		return nil, e
	}
	hits, e := checkBlocks(s, st, m, query, l)
	if e != api.OK {
		return nil, e
	}
	first := frontier.Keep(nil, hits, count)
	for _, b := range l {
		if len(b.Places) > 0 && (len(first) < count || !ratio.Less(first[count-1].Distance, b.Claim.Value)) {
			return nil, api.ErrProof
		}
	}
	return first, api.OK
}

// CheckWithin checks a proof of the windows within a distance, and returns them.
func CheckWithin(s api.Scheme, st api.Store, m api.Measure, query []int, limit api.Ratio, l []api.Block) ([]api.Hit, api.Errno) {
	if e := checkQuestion(s, st, m, query); e != api.OK {
		return nil, e
	}
	if !ratio.Valid(limit) {
		return nil, api.ErrRange
	}
	hits, e := checkBlocks(s, st, m, query, l)
	if e != api.OK {
		return nil, e
	}
	for _, b := range l {
		if len(b.Places) > 0 && !ratio.Less(limit, b.Claim.Value) {
			return nil, api.ErrProof
		}
	}
	var near []api.Hit
	for _, h := range hits {
		if !ratio.Less(limit, h.Distance) {
			near = append(near, h)
		}
	}
	return near, api.OK
}

// checkQuestion returns the error of what a proof is about.
func checkQuestion(s api.Scheme, st api.Store, m api.Measure, query []int) api.Errno {
	if e := store.Check(st); e != api.OK {
		return e
	}
	if e := store.Query(m, query); e != api.OK {
		return e
	}
	if e := word.Check(s); e != api.OK {
		return e
	}
	if m.Kind != s.Measure.Kind {
		return api.ErrMeasure
	}
	if len(query) != s.Length {
		return api.ErrLength
	}
	return api.OK
}

// checkBlocks returns the hits of all blocks, in order, if these are complete.
func checkBlocks(s api.Scheme, st api.Store, m api.Measure, query []int, l []api.Block) ([]api.Hit, api.Errno) {
	if len(l) > api.MaxEntries {
		return nil, api.ErrLimit
	}
	places, e := store.Places(st, s.Length)
	if e != api.OK {
		return nil, e
	}
	left := map[api.Place]bool{}
	for _, p := range places {
		left[p] = true
	}
	s.Measure = m
	named := map[api.Place]bool{}
	var hits []api.Hit
	for _, b := range l {
		if !name(b, left, named) || !excludes(s, st, query, b) || !compares(m, st, query, b) {
			return nil, api.ErrProof
		}
		for p := range named {
			delete(left, p)
		}
		clear(named)
		hits = append(hits, b.Hits...)
	}
	if len(left) > 0 {
		return nil, api.ErrProof
	}
	frontier.Sort(hits)
	return hits, api.OK
}

// name adds the places of a block to those that were named, and reports whether all of them were left, each once.
func name(b api.Block, left, named map[api.Place]bool) bool {
	places := slices.Clone(b.Places)
	for _, h := range b.Hits {
		places = append(places, h.Place)
	}
	for _, p := range places {
		if !left[p] || named[p] {
			return false
		}
		named[p] = true
	}
	return true
}

// compares reports whether the hits of a block, whose places were checked, have their distances.
func compares(m api.Measure, st api.Store, query []int, b api.Block) bool {
	for _, h := range b.Hits {
		d, e := measure.Distance(m, query, window(st, h.Place, len(query)))
		if e != api.OK || d != h.Distance {
			return false
		}
	}
	return true
}

// excludes reports whether the places of a block, which were checked, belong to its word and its claim holds; or
// whether it has neither, if there are no places.
func excludes(s api.Scheme, st api.Store, query []int, b api.Block) bool {
	if len(b.Places) == 0 {
		return len(b.Word.Symbols) == 0 && len(b.Word.Bits) == 0 && b.Claim == api.Claim{}
	}
	if len(b.Hits) > 0 || !word.Valid(s, b.Word) {
		return false
	}
	for _, p := range b.Places {
		full, e := word.Of(s, window(st, p, s.Length))
		if e != api.OK || !word.Belongs(s, b.Word, full) {
			return false
		}
	}
	return bound.HoldsRegion(s, query, b.Word, b.Claim)
}

func window(st api.Store, p api.Place, n int) []int {
	return st.Series[p.Series][p.Start : p.Start+n]
}
