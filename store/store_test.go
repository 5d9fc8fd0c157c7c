package store_test

import (
	"math"
	"math/rand"
	"slices"
	"testing"

	"shapesearch/api"
	"shapesearch/measure"
	"shapesearch/ratio"
	"shapesearch/store"
)

const gone = api.Missing

func of(l ...[]int) api.Store { return api.Store{Series: l} }

func random(r *rand.Rand) api.Store {
	var s api.Store
	for range r.Intn(5) {
		l := make([]int, r.Intn(30))
		for i := range l {
			l[i] = r.Intn(7) - 3
			if r.Intn(8) == 0 {
				l[i] = gone
			}
		}
		s.Series = append(s.Series, l)
	}
	return s
}

// TestCheck tests P23.1.
func TestCheck(t *testing.T) {
	full := make([]int, api.MaxTotal)
	sixteen := make([][]int, api.MaxStore)
	for i, v := range []struct {
		s api.Store
		e api.Errno
	}{
		{of(), api.OK},
		{of(full), api.OK},
		{of(full[:1000], full[1000:], nil), api.OK},
		{of(sixteen...), api.OK},
		{of([]int{-1000, gone, 1000}), api.OK},
		{of(append(sixteen[:15:15], []int{1001}, nil)...), api.ErrStore},
		{of([]int{1001}, full), api.ErrStore},
		{of([]int{0}, []int{1001}), api.ErrSample},
		{of([]int{gone + 1}), api.ErrSample},
		{of([]int{math.MinInt}), api.ErrSample},
	} {
		if e := store.Check(v.s); e != v.e {
			t.Errorf("%d: Check is %d", i, e)
		}
		if v.e == api.OK {
			continue
		}
		if l, e := store.Places(v.s, 0); len(l) > 0 || e != v.e {
			t.Errorf("%d: Places is %v, %d", i, l, e)
		}
		if l, e := store.Window(v.s, api.Place{Series: -1}, 0); len(l) > 0 || e != v.e {
			t.Errorf("%d: Window is %v, %d", i, l, e)
		}
		if l, e := store.Nearest(v.s, api.Measure{}, nil, 0); len(l) > 0 || e != v.e {
			t.Errorf("%d: Nearest is %v, %d", i, l, e)
		}
		if l, e := store.Within(v.s, api.Measure{}, nil, api.Ratio{}); len(l) > 0 || e != v.e {
			t.Errorf("%d: Within is %v, %d", i, l, e)
		}
	}
}

// TestPlaces tests P23.1.
func TestPlaces(t *testing.T) {
	s := of([]int{0, 1, gone, 3, 4}, nil, []int{5, 6, 7})
	for length, want := range map[int][]api.Place{
		2: {{Series: 0, Start: 0}, {Series: 0, Start: 3}, {Series: 2, Start: 0}, {Series: 2, Start: 1}}, 3: {{Series: 2, Start: 0}}, 4: nil, 32: nil,
	} {
		if l, e := store.Places(s, length); !slices.Equal(l, want) || e != api.OK {
			t.Errorf("Places of %d is %v, %d", length, l, e)
		}
	}
	for _, length := range []int{1, 33, 0, math.MinInt, math.MaxInt} {
		if l, e := store.Places(s, length); len(l) > 0 || e != api.ErrLength {
			t.Errorf("Places of %d is %v, %d", length, l, e)
		}
	}
}

// TestWindow tests P23.1.
func TestWindow(t *testing.T) {
	s := of([]int{0, 1, gone, 3, 4}, nil, []int{5, 6, 7})
	for i, v := range []struct {
		series, start, length int
		want                  []int
		e                     api.Errno
	}{
		{0, 3, 2, []int{3, 4}, api.OK},
		{2, 0, 3, []int{5, 6, 7}, api.OK},
		{0, 1, 2, nil, api.ErrMissing},
		{0, 2, 2, nil, api.ErrMissing},
		{0, 4, 2, nil, api.ErrPlace},
		{0, -1, 2, nil, api.ErrPlace},
		{0, math.MaxInt, 2, nil, api.ErrPlace},
		{1, 0, 2, nil, api.ErrPlace},
		{3, 0, 2, nil, api.ErrPlace},
		{-1, 0, 2, nil, api.ErrPlace},
		{2, 0, 4, nil, api.ErrPlace},
		{9, 9, 1, nil, api.ErrLength},
		{9, 9, 33, nil, api.ErrLength},
	} {
		if l, e := store.Window(s, api.Place{Series: v.series, Start: v.start}, v.length); !slices.Equal(l, v.want) || e != v.e {
			t.Errorf("%d: Window is %v, %d", i, l, e)
		}
	}
	l, _ := store.Window(s, api.Place{Series: 2}, 2)
	l[0] = 99
	if s.Series[2][0] != 5 {
		t.Error("a window shares memory with the store")
	}
}

// TestQuery tests P23.2.
func TestQuery(t *testing.T) {
	for i, v := range []struct {
		m     api.Measure
		query []int
		e     api.Errno
	}{
		{api.Measure{Kind: 4, Band: 3}, []int{1, 2}, api.OK},
		{api.Measure{Kind: 1, Band: 3}, []int{1001}, api.ErrMeasure},
		{api.Measure{Kind: 1}, []int{1001}, api.ErrLength},
		{api.Measure{Kind: 1}, make([]int, 33), api.ErrLength},
		{api.Measure{Kind: 1}, []int{0, 1001}, api.ErrSample},
		{api.Measure{Kind: 1}, []int{0, gone}, api.ErrSample},
	} {
		if e := store.Query(v.m, v.query); e != v.e {
			t.Errorf("%d: Query is %d", i, e)
		}
		if l, e := store.Hits(of([]int{1, 2, 3}), v.m, v.query); e != v.e || (e == api.OK) != (len(l) > 0) {
			t.Errorf("%d: Hits is %v, %d", i, l, e)
		}
		if l, e := store.Nearest(of(), v.m, v.query, 0); v.e != api.OK && e != v.e || len(l) > 0 {
			t.Errorf("%d: Nearest is %v, %d", i, l, e)
		}
		if l, e := store.Within(of(), v.m, v.query, api.Ratio{}); v.e != api.OK && e != v.e || len(l) > 0 {
			t.Errorf("%d: Within is %v, %d", i, l, e)
		}
	}
}

// TestBefore tests P23.3.
func TestBefore(t *testing.T) {
	h := func(num, den, series, start int) api.Hit {
		return api.Hit{Distance: api.Ratio{Num: num, Den: den}, Place: api.Place{Series: series, Start: start}}
	}
	l := []api.Hit{h(1, 3, 5, 5), h(1, 2, 0, 7), h(1, 2, 1, 0), h(1, 2, 1, 3), h(7, 1, 0, 0)}
	for i, a := range l {
		for j, b := range l {
			if store.Before(a, b) != (i < j) {
				t.Errorf("%v and %v are not in order", a, b)
			}
		}
	}
	// Neither of two distances is less if one is not valid.
	if !store.Before(h(9, 1, 0, 0), h(2, 4, 0, 1)) || store.Before(h(1, 0, 0, 1), h(9, 1, 0, 1)) || !store.Before(h(9, 1, -1, 1), h(0, 0, 0, 0)) {
		t.Error("hits with invalid distances are not ordered by their places")
	}
}

// TestHits tests P23.3.
func TestHits(t *testing.T) {
	r := rand.New(rand.NewSource(37))
	for range 300 {
		s, query := random(r), make([]int, 2+r.Intn(6))
		for i := range query {
			query[i] = r.Intn(7) - 3
		}
		m := []api.Measure{{Kind: 1}, {Kind: 2}, {Kind: 3}, {Kind: 4, Band: 1}, {Kind: 5, Gap: 1}}[r.Intn(5)]
		hits, e := store.Hits(s, m, query)
		places, _ := store.Places(s, len(query))
		if e != api.OK || len(hits) != len(places) {
			t.Fatalf("there are %d hits, %d, and %d windows", len(hits), e, len(places))
		}
		for i, h := range hits {
			w, e := store.Window(s, h.Place, len(query))
			if d, _ := measure.Distance(m, query, w); e != api.OK || d != h.Distance || i > 0 && !store.Before(hits[i-1], h) {
				t.Fatalf("the hit %v has the distance %v, %d", h, d, e)
			}
		}
		count := 1 + r.Intn(api.MaxAnswers)
		if l, e := store.Nearest(s, m, query, count); !slices.Equal(l, hits[:min(count, len(hits))]) || e != api.OK {
			t.Fatalf("Nearest is %v, %d", l, e)
		}
		limit := api.Ratio{Num: 1, Den: 3}
		if len(hits) > 0 {
			limit = hits[r.Intn(len(hits))].Distance
		}
		n := len(slices.DeleteFunc(slices.Clone(hits), func(h api.Hit) bool { return ratio.Less(limit, h.Distance) }))
		if l, e := store.Within(s, m, query, limit); !slices.Equal(l, hits[:n]) || e != api.OK {
			t.Fatalf("Within %v is %v, %d", limit, l, e)
		}
	}
	for _, count := range []int{0, -1, api.MaxAnswers + 1, math.MinInt} {
		if l, e := store.Nearest(of([]int{1, 2}), api.Measure{Kind: 1}, []int{1, 2}, count); len(l) > 0 || e != api.ErrCount {
			t.Errorf("Nearest with the count %d is %v, %d", count, l, e)
		}
	}
	for _, limit := range []api.Ratio{{}, {Num: 2, Den: 2}, {Num: -1, Den: 1}} {
		if l, e := store.Within(of([]int{1, 2}), api.Measure{Kind: 1}, []int{1, 2}, limit); len(l) > 0 || e != api.ErrRange {
			t.Errorf("Within %v is %v, %d", limit, l, e)
		}
	}
}
