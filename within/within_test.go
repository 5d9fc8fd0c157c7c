package within_test

import (
	"math/rand"
	"slices"
	"testing"

	"shapesearch/api"
	"shapesearch/nearest"
	"shapesearch/ratio"
	"shapesearch/store"
	"shapesearch/tree"
	"shapesearch/trial"
	"shapesearch/within"
)

// has reports whether a node, or a node below it, has entries.
func has(t api.Tree, at int) bool {
	n := t.Nodes[at]
	return len(n.Entries) > 0 || n.Left >= 0 && (has(t, n.Left) || has(t, n.Right))
}

// slow counts what a search looks into, by its definition.
func slow(t api.Tree, bounds []api.Ratio, limit api.Ratio, at int) (int, int) {
	if ratio.Less(limit, bounds[at]) {
		return 0, 0
	}
	nodes, windows := 1, len(t.Nodes[at].Entries)
	for _, child := range []int{t.Nodes[at].Left, t.Nodes[at].Right} {
		if child >= 0 && has(t, child) {
			n, w := slow(t, bounds, limit, child)
			nodes, windows = nodes+n, windows+w
		}
	}
	return nodes, windows
}

// limits returns distances that matter for a query.
func limits(r *rand.Rand, st api.Store, m api.Measure, query []int) []api.Ratio {
	l := []api.Ratio{{Den: 1}, {Num: 1, Den: 3}, {Num: api.MaxNum, Den: 1}}
	if hits, _ := store.Hits(st, m, query); len(hits) > 0 {
		l = append(l, hits[r.Intn(len(hits))].Distance, hits[len(hits)/8].Distance)
	}
	return l
}

// TestSearch tests P31.1 and P31.2.
func TestSearch(t *testing.T) {
	r := rand.New(rand.NewSource(58))
	pruned := map[int]int{}
	for i := range 300 {
		kind := 1 + i%5
		s, st := trial.Scheme(r.Intn, kind), trial.Store(r.Intn, 80)
		x, m, query := trial.Tree(r.Intn, s, st), trial.Measure(r.Intn, kind), trial.Query(r.Intn, st, s.Length)
		bounds, _ := nearest.Bounds(x, m, query)
		all, counts := limits(r, st, m, query), []int{}
		for _, limit := range all {
			hits, effort, e := within.Search(x, st, m, query, limit)
			want, _ := store.Within(st, m, query, limit)
			nodes, windows := slow(x, bounds, limit, 0)
			cost := api.Effort{Nodes: nodes, Compared: windows, Pruned: len(tree.Entries(x)) - windows}
			if !slices.Equal(hits, want) || effort != cost || e != api.OK {
				t.Fatalf("Search is %v, %v, %d, want %v, %v", hits, effort, e, want, cost)
			}
			counts = append(counts, len(hits))
			pruned[kind] += effort.Pruned
		}
		if l, e := within.Count(x, st, m, query, all); !slices.Equal(l, counts) || e != api.OK {
			t.Fatalf("Count is %v, %d, want %v", l, e, counts)
		}
	}
	for kind := 1; kind <= 5; kind++ {
		if pruned[kind] == 0 {
			t.Errorf("no window was left out with the kind %d", kind)
		}
	}
}

// TestEqual tests P31.1 with the limit 0, which finds the windows that are equal to the query.
func TestEqual(t *testing.T) {
	st := api.Store{Series: [][]int{{1, 2, 3}}}
	s := api.Scheme{Measure: api.Measure{Kind: 1}, Length: 2, Pieces: 1}
	x := trial.Tree(func(int) int { return 0 }, s, st)
	hits, effort, e := within.Search(x, st, s.Measure, []int{1, 2}, api.Ratio{Den: 1})
	if !slices.Equal(hits, []api.Hit{{Distance: api.Ratio{Den: 1}}}) || effort.Compared+effort.Pruned != 2 || e != api.OK {
		t.Errorf("Search is %v, %v, %d", hits, effort, e)
	}
}

// TestErrors tests the errors of P31.1 and P31.2.
func TestErrors(t *testing.T) {
	r := rand.New(rand.NewSource(59))
	s, st := trial.Scheme(r.Intn, 1), api.Store{Series: [][]int{trial.Samples(r.Intn, 30, 15, 0)}}
	x, query := trial.Tree(r.Intn, s, st), make([]int, s.Length)
	good, bad := api.Ratio{Num: 1, Den: 2}, api.Ratio{Num: 2, Den: 4}
	for i, v := range []struct {
		t             api.Tree
		s             api.Store
		m             api.Measure
		q             []int
		limit         api.Ratio
		limits        []api.Ratio
		search, count api.Errno
	}{
		{x, st, s.Measure, query, good, slices.Repeat([]api.Ratio{good}, 16), api.OK, api.OK},
		{api.Tree{}, st, s.Measure, query, bad, make([]api.Ratio, 17), api.ErrWord, api.ErrWord},
		{x, api.Store{Series: make([][]int, 17)}, s.Measure, query, bad, make([]api.Ratio, 17), api.ErrStore, api.ErrStore},
		{x, api.Store{}, s.Measure, query, bad, make([]api.Ratio, 17), api.ErrTree, api.ErrTree},
		{x, api.Store{}, trial.BadMeasure(), nil, bad, nil, api.ErrMeasure, api.ErrMeasure},
		{x, st, s.Measure, query, bad, make([]api.Ratio, 17), api.ErrRange, api.ErrLimit},
		{x, st, s.Measure, query, api.Ratio{}, []api.Ratio{good, good, bad}, api.ErrRange, api.ErrRange},
		{x, st, s.Measure, query, api.Ratio{Num: -1, Den: 1}, nil, api.ErrRange, api.OK},
	} {
		if hits, effort, e := within.Search(v.t, v.s, v.m, v.q, v.limit); e != v.search || e != api.OK && (len(hits) > 0 || effort != (api.Effort{})) {
			t.Errorf("%d: Search is %v, %v, %d", i, hits, effort, e)
		}
		if l, e := within.Count(v.t, v.s, v.m, v.q, v.limits); e != v.count || e != api.OK && len(l) > 0 {
			t.Errorf("%d: Count is %v, %d", i, l, e)
		}
	}
}
