package join_test

import (
	"math"
	"math/rand"
	"slices"
	"testing"

	"shapesearch/api"
	"shapesearch/join"
	"shapesearch/ratio"
	"shapesearch/store"
	"shapesearch/trial"
)

// pairs returns all pairs of windows, in the order of the other store's places and then of the hits.
func pairs(st api.Store, m api.Measure, other api.Store, n int) []api.Match {
	var l []api.Match
	places, _ := store.Places(other, n)
	for _, p := range places {
		q, _ := store.Window(other, p, n)
		hits, _ := store.Hits(st, m, q)
		for _, h := range hits {
			l = append(l, api.Match{Place: p, Hit: h})
		}
	}
	return l
}

func order(a, b api.Match) int {
	switch {
	case join.Earlier(a, b):
		return -1
	case join.Earlier(b, a):
		return 1
	}
	return 0
}

// TestJoin tests P34.1 and P34.2.
func TestJoin(t *testing.T) {
	r := rand.New(rand.NewSource(65))
	for i := range 100 {
		kind := 1 + i%5
		s, st, other := trial.Scheme(r.Intn, kind), trial.Store(r.Intn, 40), trial.Store(r.Intn, 25)
		x, m := trial.Tree(r.Intn, s, st), trial.Measure(r.Intn, kind)
		all := pairs(st, m, other, s.Length)
		var first []api.Match
		for i, p := range all {
			if i == 0 || all[i-1].Place != p.Place {
				first = append(first, p)
			}
		}
		if l, e := join.Nearest(x, st, m, other); !slices.Equal(l, first) || e != api.OK {
			t.Fatalf("Nearest is %v, %d, want %v", l, e, first)
		}
		limit := api.Ratio{Num: r.Intn(50), Den: 1}
		if len(all) > 0 {
			limit = all[r.Intn(len(all))].Hit.Distance
		}
		near := slices.DeleteFunc(slices.Clone(all), func(p api.Match) bool { return ratio.Less(limit, p.Hit.Distance) })
		if l, e := join.Within(x, st, m, other, limit); !slices.Equal(l, near) || e != api.OK {
			t.Fatalf("Within is %v, %d, want %v", l, e, near)
		}
		slices.SortFunc(all, order)
		count := []int{1, 1 + r.Intn(10), api.MaxAnswers}[r.Intn(3)]
		if l, e := join.Closest(x, st, m, other, count); !slices.Equal(l, all[:min(count, len(all))]) || e != api.OK {
			t.Fatalf("Closest is %v, %d, want %v", l, e, all[:min(count, len(all))])
		}
	}
}

// TestSelf tests P34.1 with a store joined with itself.
func TestSelf(t *testing.T) {
	r := rand.New(rand.NewSource(66))
	for kind := 1; kind <= 5; kind++ {
		s, st := trial.Scheme(r.Intn, kind), trial.Store(r.Intn, 60)
		x := trial.Tree(r.Intn, s, st)
		l, e := join.Nearest(x, st, s.Measure, st)
		places, _ := store.Places(st, s.Length)
		if len(l) != len(places) || e != api.OK {
			t.Fatalf("there are %d matches of %d windows, %d", len(l), len(places), e)
		}
		for i, p := range l {
			if p.Place != places[i] || p.Hit.Distance != (api.Ratio{Den: 1}) {
				t.Errorf("the match %d is %v", i, p)
			}
		}
	}
}

// TestEarlier tests P34.2.
func TestEarlier(t *testing.T) {
	p := func(num, den, series, start, hitSeries, hitStart int) api.Match {
		return api.Match{Place: api.Place{Series: series, Start: start}, Hit: api.Hit{Distance: api.Ratio{Num: num, Den: den}, Place: api.Place{Series: hitSeries, Start: hitStart}}}
	}
	l := []api.Match{p(1, 3, 9, 9, 9, 9), p(1, 2, 0, 0, 8, 8), p(1, 2, 0, 1, 0, 0), p(1, 2, 1, 0, 0, 7), p(1, 2, 1, 0, 1, 0), p(1, 2, 1, 0, 1, 1), p(2, 1, 0, 0, 0, 0)}
	for i, a := range l {
		for j, b := range l {
			if join.Earlier(a, b) != (i < j) {
				t.Errorf("Earlier(%v, %v) is wrong", a, b)
			}
		}
	}
	if !join.Earlier(p(9, 1, 0, 0, 0, 0), p(2, 4, 0, 1, 0, 0)) || join.Earlier(p(0, 0, 0, 1, 0, 0), p(9, 1, 0, 0, 0, 0)) {
		t.Error("neither of two distances is less if one is not valid")
	}
}

// TestErrors tests the errors of P34.1 and P34.2 in their order.
func TestErrors(t *testing.T) {
	st := api.Store{Series: [][]int{{1, 2, 3, 4, 5, 6}, {7, api.Missing, 1, 2, 3}}}
	s := api.Scheme{Measure: api.Measure{Kind: 1}, Length: 3, Pieces: 2}
	x := trial.Tree(func(int) int { return 2 }, s, st)
	wrong, many := api.Store{Series: [][]int{{1001}}}, api.Store{Series: make([][]int, 17)}
	one, bad := api.Ratio{Num: 1, Den: 1}, api.Ratio{Num: 2, Den: 2}
	for i, v := range []struct {
		t         api.Tree
		st        api.Store
		m         api.Measure
		other     api.Store
		e         api.Errno
		limit     api.Ratio
		withinE   api.Errno
		count     int
		closestE  api.Errno
		something bool
	}{
		{api.Tree{}, wrong, trial.BadMeasure(), many, api.ErrWord, bad, api.ErrWord, 0, api.ErrWord, false},
		{x, wrong, trial.BadMeasure(), many, api.ErrSample, bad, api.ErrSample, 0, api.ErrSample, false},
		{x, many, trial.BadMeasure(), wrong, api.ErrStore, bad, api.ErrStore, 0, api.ErrStore, false},
		{x, api.Store{}, trial.BadMeasure(), many, api.ErrStore, bad, api.ErrStore, 0, api.ErrStore, false},
		{x, api.Store{}, trial.BadMeasure(), st, api.ErrMeasure, bad, api.ErrMeasure, 0, api.ErrMeasure, false},
		{x, api.Store{}, api.Measure{Kind: 2}, st, api.ErrMeasure, bad, api.ErrMeasure, 0, api.ErrMeasure, false},
		{x, api.Store{}, s.Measure, st, api.ErrTree, bad, api.ErrTree, 0, api.ErrTree, false},
		{x, st, s.Measure, st, api.OK, bad, api.ErrRange, 0, api.ErrCount, true},
		{x, st, s.Measure, st, api.OK, api.Ratio{}, api.ErrRange, 65, api.ErrCount, true},
		{x, st, s.Measure, st, api.OK, api.Ratio{Num: -1, Den: 1}, api.ErrRange, math.MinInt, api.ErrCount, true},
		{x, st, s.Measure, api.Store{}, api.OK, one, api.OK, 1, api.OK, false},
	} {
		if l, e := join.Nearest(v.t, v.st, v.m, v.other); e != v.e || (len(l) > 0) != v.something {
			t.Errorf("%d: Nearest is %v, %d", i, l, e)
		}
		if l, e := join.Within(v.t, v.st, v.m, v.other, v.limit); len(l) > 0 || e != v.withinE {
			t.Errorf("%d: Within is %v, %d", i, l, e)
		}
		if l, e := join.Closest(v.t, v.st, v.m, v.other, v.count); len(l) > 0 || e != v.closestE {
			t.Errorf("%d: Closest is %v, %d", i, l, e)
		}
	}
	empty := trial.Tree(func(int) int { return 2 }, s, api.Store{})
	if l, e := join.Nearest(empty, api.Store{}, s.Measure, st); len(l) > 0 || e != api.OK {
		t.Errorf("a store without windows: %v, %d", l, e)
	}
}
