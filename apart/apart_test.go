package apart_test

import (
	"math"
	"math/rand"
	"slices"
	"testing"

	"shapesearch/apart"
	"shapesearch/api"
	"shapesearch/nearest"
	"shapesearch/store"
	"shapesearch/trial"
)

func hit(series, start int) api.Hit {
	return api.Hit{Distance: api.Ratio{Num: start, Den: 7}, Place: api.Place{Series: series, Start: start}}
}

// slow chooses hits by the definition.
func slow(l []api.Hit, count, zone int) []api.Hit {
	var chosen []api.Hit
	for _, h := range l {
		near := slices.ContainsFunc(chosen, func(c api.Hit) bool {
			return c.Place.Series == h.Place.Series && max(c.Place.Start-h.Place.Start, h.Place.Start-c.Place.Start) < zone
		})
		if !near && len(chosen) < count {
			chosen = append(chosen, h)
		}
	}
	return chosen
}

// TestChoose tests P32.1.
func TestChoose(t *testing.T) {
	l := []api.Hit{hit(0, 5), hit(0, 6), hit(0, 9), hit(1, 6), hit(0, 8), hit(0, 2), hit(0, 2000)}
	for i, v := range []struct {
		count, zone int
		want        []api.Hit
	}{
		{64, 3, []api.Hit{l[0], l[2], l[3], l[5], l[6]}},
		{2, 3, []api.Hit{l[0], l[2]}},
		{64, 1, l},
		{64, 64, []api.Hit{l[0], l[3], l[6]}},
		{0, 3, nil}, {65, 3, nil}, {-1, 3, nil}, {3, 0, nil}, {3, 65, nil}, {math.MinInt, math.MinInt, nil}, {math.MaxInt, 1, nil},
	} {
		if c := apart.Choose(l, v.count, v.zone); !slices.Equal(c, v.want) {
			t.Errorf("%d: Choose is %v", i, c)
		}
	}
	if c := apart.Choose([]api.Hit{l[0], l[0]}, 9, 1); !slices.Equal(c, l[:1]) {
		t.Errorf("Choose of a place that is there twice is %v", c)
	}
	r := rand.New(rand.NewSource(60))
	for range 500 {
		l := make([]api.Hit, r.Intn(60))
		for i := range l {
			l[i] = hit(r.Intn(3), r.Intn(100))
		}
		count, zone := 1+r.Intn(20), 1+r.Intn(12)
		if c := apart.Choose(l, count, zone); !slices.Equal(c, slow(l, count, zone)) {
			t.Fatalf("Choose of %v with %d and %d is %v", l, count, zone, c)
		}
	}
}

// TestSearch tests P32.2.
func TestSearch(t *testing.T) {
	r := rand.New(rand.NewSource(61))
	for i := range 150 {
		kind := 1 + i%5
		s, st := trial.Scheme(r.Intn, kind), trial.Store(r.Intn, 60)
		x, m, query := trial.Tree(r.Intn, s, st), trial.Measure(r.Intn, kind), trial.Query(r.Intn, st, s.Length)
		count, zone := 1+r.Intn(9), 1+r.Intn(9)
		all, _ := store.Hits(st, m, query)
		hits, e := apart.Search(x, st, m, query, count, zone)
		if !slices.Equal(hits, slow(all, count, zone)) || e != api.OK {
			t.Fatalf("Search is %v, %d", hits, e)
		}
		if first, _, _ := nearest.Search(x, st, m, query, 1); len(hits) > 0 && first[0] != hits[0] {
			t.Fatalf("the first hit is %v, want %v", hits[0], first[0])
		}
	}
}

// TestErrors tests the errors of P32.2.
func TestErrors(t *testing.T) {
	r := rand.New(rand.NewSource(62))
	s, st := trial.Scheme(r.Intn, 1), api.Store{Series: [][]int{trial.Samples(r.Intn, 30, 15, 0)}}
	x, query := trial.Tree(r.Intn, s, st), make([]int, s.Length)
	for i, v := range []struct {
		t           api.Tree
		s           api.Store
		m           api.Measure
		q           []int
		count, zone int
		e           api.Errno
	}{
		{api.Tree{}, st, s.Measure, query, 0, 0, api.ErrWord},
		{x, api.Store{}, s.Measure, query, 0, 0, api.ErrTree},
		{x, st, trial.BadMeasure(), query, 0, 0, api.ErrMeasure},
		{x, st, s.Measure, query[:1], 0, 0, api.ErrLength},
		{x, st, s.Measure, query, 0, 0, api.ErrCount},
		{x, st, s.Measure, query, 65, 0, api.ErrCount},
		{x, st, s.Measure, query, 64, 0, api.ErrZone},
		{x, st, s.Measure, query, 1, 65, api.ErrZone},
	} {
		if hits, e := apart.Search(v.t, v.s, v.m, v.q, v.count, v.zone); len(hits) > 0 || e != v.e {
			t.Errorf("%d: Search is %v, %d", i, hits, e)
		}
	}
}
