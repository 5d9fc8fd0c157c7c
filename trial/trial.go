// Package trial makes arguments for the tests of the upper layers. All choices are made by a function that returns a
// number from 0 to the one before its argument, which the tests bring along.
package trial

import (
	"slices"

	"shapesearch/api"
	"shapesearch/bulk"
)

// Choose returns a number from 0 to n - 1.
type Choose func(n int) int

// Samples returns n samples from -spread to spread that walk up and down; one of so many, if gaps is positive, is missing.
func Samples(choose Choose, n, spread, gaps int) []int {
	l := make([]int, n)
	last := 0
	for i := range l {
		last = min(max(last+choose(spread+1)-spread/2, -spread), spread)
		l[i] = last
		if gaps > 0 && choose(gaps) == 0 {
			l[i] = api.Missing
		}
	}
	return l
}

// Store returns up to three series with up to n samples each.
func Store(choose Choose, n int) api.Store {
	var st api.Store
	for range 1 + choose(3) {
		st.Series = append(st.Series, Samples(choose, choose(n+1), 15, 25))
	}
	return st
}

// Measure returns a measure of a kind.
func Measure(choose Choose, kind int) api.Measure {
	m := api.Measure{Kind: kind}
	switch kind {
	case api.KindWarp:
		m.Band = choose(4)
	case api.KindEdit:
		m.Gap = choose(21) - 10
	}
	return m
}

// Scheme returns a scheme for a kind of measure, with cuts among the coordinates that samples of Store have.
func Scheme(choose Choose, kind int) api.Scheme {
	spread := 12
	switch kind {
	case api.KindShifted:
		spread = 6
	case api.KindNormal:
		spread = 60
	}
	cuts := make([]int, choose(api.MaxCuts+1))
	for i := range cuts {
		cuts[i] = choose(2*spread+1) - spread
	}
	slices.Sort(cuts)
	length := 2 + choose(7)
	return api.Scheme{Measure: Measure(choose, kind), Length: length, Pieces: 1 + choose(min(length, 3)), Cuts: slices.Compact(cuts)}
}

// Tree returns the tree of a store.
func Tree(choose Choose, s api.Scheme, st api.Store) api.Tree {
	t, _, _ := bulk.Load(s, 1+choose(8), st, 16, 4)
	return t
}

// Query returns n samples: some of the store in a row that were changed a little, or others.
func Query(choose Choose, st api.Store, n int) []int {
	q := Samples(choose, n, 15, 0)
	l := st.Series[choose(len(st.Series))]
	if len(l) < n || choose(4) == 0 {
		return q
	}
	from := choose(len(l) - n + 1)
	for i, v := range l[from : from+n] {
		if v != api.Missing {
			q[i] = v + choose(3) - 1
		}
	}
	return q
}

// BadMeasure returns a measure that is not valid.
func BadMeasure() api.Measure {
	return api.Measure{Kind: api.KindEuclid, Band: 1}
}
