package nearest_test

import (
	"math"
	"math/rand"
	"slices"
	"testing"

	"shapesearch/api"
	"shapesearch/bound"
	"shapesearch/bulk"
	"shapesearch/measure"
	"shapesearch/nearest"
	"shapesearch/ratio"
	"shapesearch/store"
	"shapesearch/tree"
	"shapesearch/trial"
)

// has reports whether a node, or a node below it, has entries.
func has(t api.Tree, at int) bool {
	n := t.Nodes[at]
	return len(n.Entries) > 0 || n.Left >= 0 && (has(t, n.Left) || has(t, n.Right))
}

// slow carries out a search by its definition.
func slow(t api.Tree, st api.Store, m api.Measure, query []int, count int) ([]api.Hit, api.Effort) {
	bounds, _ := nearest.Bounds(t, m, query)
	var hits []api.Hit
	var effort api.Effort
	open := []int{0}
	for len(open) > 0 {
		best := 0
		for i, n := range open {
			if c := ratio.Cmp(bounds[n], bounds[open[best]]); c < 0 || c == 0 && n < open[best] {
				best = i
			}
		}
		at := open[best]
		if len(hits) == count && ratio.Less(hits[count-1].Distance, bounds[at]) {
			break
		}
		open = slices.Delete(open, best, best+1)
		effort.Nodes++
		for _, e := range t.Nodes[at].Entries {
			w, _ := store.Window(st, e.Place, len(query))
			d, _ := measure.Distance(m, query, w)
			hits = append(hits, api.Hit{Distance: d, Place: e.Place})
			effort.Compared++
		}
		slices.SortFunc(hits, func(a, b api.Hit) int {
			if store.Before(a, b) {
				return -1
			}
			return 1
		})
		hits = hits[:min(count, len(hits))]
		for _, child := range []int{t.Nodes[at].Left, t.Nodes[at].Right} {
			if child >= 0 && has(t, child) {
				open = append(open, child)
			}
		}
	}
	effort.Pruned = len(tree.Entries(t)) - effort.Compared
	return hits, effort
}

// TestSearch tests P30.2.
func TestSearch(t *testing.T) {
	r := rand.New(rand.NewSource(55))
	pruned := map[int]int{}
	for i := range 400 {
		kind := 1 + i%5
		s, st := trial.Scheme(r.Intn, kind), trial.Store(r.Intn, 80)
		x, m := trial.Tree(r.Intn, s, st), trial.Measure(r.Intn, kind)
		for range 3 {
			query, count := trial.Query(r.Intn, st, s.Length), 1+r.Intn(8)
			if r.Intn(10) == 0 {
				count = api.MaxAnswers
			}
			hits, effort, e := nearest.Search(x, st, m, query, count)
			if want, cost := slow(x, st, m, query, count); !slices.Equal(hits, want) || effort != cost || e != api.OK {
				t.Fatalf("Search is %v, %v, %d, want %v, %v", hits, effort, e, want, cost)
			}
			if want, _ := store.Nearest(st, m, query, count); !slices.Equal(hits, want) {
				t.Fatalf("Search is %v, want %v", hits, want)
			}
			pruned[kind] += effort.Pruned
		}
	}
	for kind := 1; kind <= 5; kind++ {
		if pruned[kind] == 0 {
			t.Errorf("no window was left out with the kind %d", kind)
		}
	}
}

// TestBounds tests P30.1.
func TestBounds(t *testing.T) {
	r := rand.New(rand.NewSource(56))
	for i := range 100 {
		kind := 1 + i%5
		s, st := trial.Scheme(r.Intn, kind), trial.Store(r.Intn, 60)
		x, m, query := trial.Tree(r.Intn, s, st), trial.Measure(r.Intn, kind), trial.Query(r.Intn, st, s.Length)
		l, e := nearest.Bounds(x, m, query)
		if len(l) != len(x.Nodes) || e != api.OK {
			t.Fatalf("there are %d bounds of %d nodes, %d", len(l), len(x.Nodes), e)
		}
		s.Measure = m
		for i, n := range x.Nodes {
			if want, _ := bound.Region(s, query, n.Word); l[i] != want {
				t.Fatalf("the bound of %v is %v, want %v", n.Word, l[i], want)
			}
		}
	}
}

// TestErrors tests the errors of P30.1 and P30.2 in their order.
func TestErrors(t *testing.T) {
	s := api.Scheme{Measure: api.Measure{Kind: api.KindWarp, Band: 2}, Length: 3, Pieces: 2, Cuts: []int{0, 4}}
	st := api.Store{Series: [][]int{{1, 2, 3, 4, 5, 6}, {7, api.Missing, 1, 2, 3}}}
	x, _, _ := bulk.Load(s, 2, st, 16, 4)
	other := api.Store{Series: [][]int{{1, 2, 3, 4, 5, -60}, {7, api.Missing, 1, 2, 3}}}
	more := api.Store{Series: [][]int{{1, 2, 3, 4, 5, 6, 7}, {7, api.Missing, 1, 2, 3}}}
	less := api.Store{Series: [][]int{{1, 2, 3, 4, 5, 6}}}
	moved := api.Store{Series: [][]int{{7, api.Missing, 1, 2, 3}, {1, 2, 3, 4, 5, 6}}}
	broken := x
	broken.Capacity = 0
	m, q := api.Measure{Kind: api.KindWarp, Band: 1}, []int{1, 2, 3}
	wrong := api.Store{Series: [][]int{{1001}}}
	for i, v := range []struct {
		t api.Tree
		s api.Store
		m api.Measure
		q []int
		e api.Errno
	}{
		{x, st, m, q, api.OK},
		{broken, wrong, trial.BadMeasure(), nil, api.ErrCount},
		{api.Tree{}, wrong, trial.BadMeasure(), nil, api.ErrWord},
		{x, wrong, trial.BadMeasure(), nil, api.ErrSample},
		{x, other, trial.BadMeasure(), nil, api.ErrMeasure},
		{x, other, api.Measure{Kind: 1}, []int{1}, api.ErrLength},
		{x, other, api.Measure{Kind: 1}, []int{1, 1001}, api.ErrSample},
		{x, other, api.Measure{Kind: 1}, []int{1, 2}, api.ErrMeasure},
		{x, other, m, []int{1, 2}, api.ErrLength},
		{x, other, m, []int{1, 2, 3, 4}, api.ErrLength},
		{x, other, m, q, api.ErrTree},
		{x, more, m, q, api.ErrTree},
		{x, less, m, q, api.ErrTree},
		{x, moved, m, q, api.ErrTree},
		{x, api.Store{}, m, q, api.ErrTree},
	} {
		if e := nearest.Fits(v.t, v.s, v.m, v.q); e != v.e {
			t.Errorf("%d: Fits is %d", i, e)
		}
		want := v.e
		if want == api.OK {
			want = api.ErrCount
		}
		for _, count := range []int{0, -1, api.MaxAnswers + 1, math.MinInt} {
			if hits, effort, e := nearest.Search(v.t, v.s, v.m, v.q, count); len(hits) > 0 || effort != (api.Effort{}) || e != want {
				t.Errorf("%d: Search is %v, %v, %d", i, hits, effort, e)
			}
		}
	}
	for i, v := range []struct {
		t api.Tree
		m api.Measure
		q []int
		e api.Errno
	}{
		{broken, trial.BadMeasure(), nil, api.ErrCount},
		{x, trial.BadMeasure(), nil, api.ErrWord},
		{x, m, []int{1, 2}, api.ErrLength},
		{x, m, []int{1, 2, 1001}, api.ErrSample},
		{x, api.Measure{Kind: 1}, q, api.OK},
	} {
		if l, e := nearest.Bounds(v.t, v.m, v.q); e != v.e || (len(l) > 0) != (e == api.OK) {
			t.Errorf("%d: Bounds is %v, %d", i, l, e)
		}
	}
}

// TestSmall tests P30.2 with trees of one leaf.
func TestSmall(t *testing.T) {
	s := api.Scheme{Measure: api.Measure{Kind: 1}, Length: 2, Pieces: 1}
	for _, l := range [][]int{nil, {1}, {1, 2}, {1, 2, 3, 4}} {
		st := api.Store{Series: [][]int{l}}
		x, _, _ := bulk.Load(s, 64, st, 16, 4)
		n := max(0, len(l)-1)
		hits, effort, e := nearest.Search(x, st, s.Measure, []int{1, 2}, 2)
		if len(hits) != min(n, 2) || effort != (api.Effort{Nodes: 1, Compared: n}) || e != api.OK {
			t.Errorf("Search is %v, %v, %d", hits, effort, e)
		}
	}
}
