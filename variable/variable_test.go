package variable_test

import (
	"math"
	"math/rand"
	"slices"
	"testing"

	"shapesearch/api"
	"shapesearch/measure"
	"shapesearch/nearest"
	"shapesearch/ratio"
	"shapesearch/store"
	"shapesearch/trial"
	"shapesearch/variable"
)

// has reports whether a node, or a node below it, has entries.
func has(t api.Tree, at int) bool {
	n := t.Nodes[at]
	return len(n.Entries) > 0 || n.Left >= 0 && (has(t, n.Left) || has(t, n.Right))
}

// slow carries out a search by its definition, and returns the nodes and the windows that it looks at.
func slow(t api.Tree, st api.Store, m api.Measure, query []int, count int) (int, int) {
	bounds, _ := nearest.Bounds(t, m, query[:t.Scheme.Length])
	var distances []api.Ratio
	nodes, compared := 0, 0
	open := []int{0}
	for len(open) > 0 {
		slices.SortFunc(open, func(a, b int) int {
			if c := ratio.Cmp(bounds[a], bounds[b]); c != 0 {
				return c
			}
			return a - b
		})
		at := open[0]
		if len(distances) >= count && ratio.Less(distances[count-1], bounds[at]) {
			break
		}
		open = open[1:]
		nodes++
		for _, e := range t.Nodes[at].Entries {
			if w, errno := store.Window(st, e.Place, len(query)); errno == api.OK {
				d, _ := measure.Distance(m, query, w)
				distances = append(distances, d)
				compared++
			}
		}
		slices.SortFunc(distances, ratio.Cmp)
		for _, child := range []int{t.Nodes[at].Left, t.Nodes[at].Right} {
			if child >= 0 && has(t, child) {
				open = append(open, child)
			}
		}
	}
	return nodes, compared
}

// TestSearch tests P33.2.
func TestSearch(t *testing.T) {
	r := rand.New(rand.NewSource(63))
	pruned := 0
	for i := range 300 {
		s, st := trial.Scheme(r.Intn, 1+i%2), trial.Store(r.Intn, 80)
		x := trial.Tree(r.Intn, s, st)
		query, count := trial.Query(r.Intn, st, s.Length+r.Intn(8)*r.Intn(2)), 1+r.Intn(5)
		hits, effort, e := variable.Search(x, st, s.Measure, query, count)
		want, _ := store.Nearest(st, s.Measure, query, count)
		places, _ := store.Places(st, len(query))
		nodes, compared := slow(x, st, s.Measure, query, count)
		if !slices.Equal(hits, want) || effort != (api.Effort{Nodes: nodes, Compared: compared, Pruned: len(places) - compared}) || e != api.OK {
			t.Fatalf("Search is %v, %v, %d, want %v, %d, %d of %d", hits, effort, e, want, nodes, compared, len(places))
		}
		pruned += effort.Pruned
		if len(query) == s.Length {
			if near, cost, _ := nearest.Search(x, st, s.Measure, query, count); !slices.Equal(hits, near) || effort != cost {
				t.Fatalf("Search is %v, %v, want %v, %v", hits, effort, near, cost)
			}
		}
	}
	if pruned == 0 {
		t.Error("no window was left out")
	}
}

// TestErrors tests P33.1, and the errors of P33.2.
func TestErrors(t *testing.T) {
	st := api.Store{Series: [][]int{{1, 2, 3, 4, 5, 6}, {7, api.Missing, 1, 2, 3}}}
	wrong := api.Store{Series: [][]int{{1001}}}
	x := func(kind int) api.Tree {
		return trial.Tree(func(int) int { return 2 }, api.Scheme{Measure: api.Measure{Kind: kind}, Length: 3, Pieces: 2}, st)
	}
	euclid, q := api.Measure{Kind: 1}, []int{1, 2, 3, 4}
	for i, v := range []struct {
		t api.Tree
		s api.Store
		m api.Measure
		q []int
		e api.Errno
	}{
		{x(1), st, euclid, q, api.OK},
		{x(2), st, api.Measure{Kind: 2}, q, api.OK},
		{api.Tree{}, wrong, trial.BadMeasure(), nil, api.ErrWord},
		{x(1), wrong, trial.BadMeasure(), nil, api.ErrSample},
		{x(1), api.Store{}, trial.BadMeasure(), nil, api.ErrMeasure},
		{x(1), api.Store{}, api.Measure{Kind: 2}, []int{1}, api.ErrLength},
		{x(1), api.Store{}, api.Measure{Kind: 2}, []int{1, 1001}, api.ErrSample},
		{x(1), api.Store{}, api.Measure{Kind: 2}, []int{1, 2}, api.ErrMeasure},
		{x(3), api.Store{}, api.Measure{Kind: 3}, []int{1, 2}, api.ErrMeasure},
		{x(4), api.Store{}, api.Measure{Kind: 4}, []int{1, 2}, api.ErrMeasure},
		{x(5), st, api.Measure{Kind: 5}, q, api.ErrMeasure},
		{x(1), api.Store{}, euclid, []int{1, 2}, api.ErrLength},
		{x(1), api.Store{}, euclid, q, api.ErrTree},
	} {
		if e := variable.Fits(v.t, v.s, v.m, v.q); e != v.e {
			t.Errorf("%d: Fits is %d", i, e)
		}
		want := v.e
		if want == api.OK {
			want = api.ErrCount
		}
		for _, count := range []int{0, api.MaxAnswers + 1, math.MinInt} {
			if hits, effort, e := variable.Search(v.t, v.s, v.m, v.q, count); len(hits) > 0 || effort != (api.Effort{}) || e != want {
				t.Errorf("%d: Search is %v, %v, %d", i, hits, effort, e)
			}
		}
	}
}

// TestScaled tests P33.3.
func TestScaled(t *testing.T) {
	r := rand.New(rand.NewSource(64))
	for i := range 150 {
		m, st := trial.Measure(r.Intn, 1+i%5), trial.Store(r.Intn, 20)
		query := trial.Query(r.Intn, st, 2+r.Intn(12))
		var lengths []int
		for range r.Intn(8) {
			lengths = append(lengths, 2+r.Intn(len(query)-1))
		}
		var want []api.Match
		for _, n := range lengths {
			if hits, _ := store.Hits(st, m, query[:n]); len(hits) > 0 {
				want = append(want, api.Match{Place: api.Place{Series: n}, Hit: hits[0]})
			}
		}
		if l, e := variable.Scaled(m, query, lengths, st); !slices.Equal(l, want) || e != api.OK {
			t.Fatalf("Scaled is %v, %d, want %v", l, e, want)
		}
	}
	st, euclid := api.Store{Series: [][]int{{1, 2, 3, 4}}}, api.Measure{Kind: 1}
	many := slices.Repeat([]int{2}, 33)
	for i, v := range []struct {
		m          api.Measure
		q, lengths []int
		s          api.Store
		e          api.Errno
	}{
		{trial.BadMeasure(), []int{1}, many, api.Store{Series: [][]int{{1001}}}, api.ErrSample},
		{trial.BadMeasure(), []int{1}, many, st, api.ErrMeasure},
		{euclid, []int{1}, many, st, api.ErrLength},
		{euclid, []int{1, 1001}, many, st, api.ErrSample},
		{euclid, []int{1, 2, 3}, append(many[:32:32], 1), st, api.ErrLimit},
		{euclid, []int{1, 2, 3}, []int{2, 1}, st, api.ErrLength},
		{euclid, []int{1, 2, 3}, []int{2, 4}, st, api.ErrLength},
		{euclid, []int{1, 2, 3}, []int{math.MinInt}, st, api.ErrLength},
		{euclid, []int{1, 2, 3}, nil, st, api.OK},
	} {
		if l, e := variable.Scaled(v.m, v.q, v.lengths, v.s); len(l) > 0 || e != v.e {
			t.Errorf("%d: Scaled is %v, %d", i, l, e)
		}
	}
	if l, e := variable.Scaled(euclid, []int{1, 2, 3}, many[:32], st); len(l) != 32 || e != api.OK {
		t.Errorf("as many lengths as there may be: %v, %d", l, e)
	}
}
