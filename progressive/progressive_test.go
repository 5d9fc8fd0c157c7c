package progressive_test

import (
	"math"
	"math/rand"
	"reflect"
	"slices"
	"testing"

	"shapesearch/api"
	"shapesearch/copies"
	"shapesearch/nearest"
	"shapesearch/progressive"
	"shapesearch/ratio"
	"shapesearch/store"
	"shapesearch/trial"
)

func equal(a, b api.Progress) bool {
	return a.Measure == b.Measure && slices.Equal(a.Query, b.Query) && a.Count == b.Count && slices.Equal(a.Best, b.Best) && slices.Equal(a.Open, b.Open) && a.Effort == b.Effort
}

// TestSearch tests P36.1 to P36.3 along whole searches.
func TestSearch(t *testing.T) {
	r := rand.New(rand.NewSource(69))
	for i := range 200 {
		kind := 1 + i%5
		s, st := trial.Scheme(r.Intn, kind), trial.Store(r.Intn, 60)
		x, m, query, count := trial.Tree(r.Intn, s, st), trial.Measure(r.Intn, kind), trial.Query(r.Intn, st, s.Length), 1+r.Intn(6)
		bounds, _ := nearest.Bounds(x, m, query)
		all, _ := store.Hits(st, m, query)
		p, e := progressive.Begin(x, st, m, query, count)
		begun := p
		if want := (api.Progress{Measure: m, Query: query, Count: count, Open: []api.Front{{Node: 0, Bound: bounds[0]}}}); !equal(p, want) || e != api.OK {
			t.Fatalf("Begin is %v, %d", p, e)
		}
		final, steps := 0, 0
		for !progressive.Done(p) {
			check(t, x, p, bounds, all)
			if n := progressive.Final(p); n < final {
				t.Fatalf("Final is %d, behind %d", n, final)
			} else {
				final = n
			}
			before := copies.Progress(p)
			next, e := progressive.Step(x, st, p)
			if e != api.OK || !equal(before, p) || next.Effort.Nodes != p.Effort.Nodes+1 {
				t.Fatalf("Step of %v is %v, %d", p, next, e)
			}
			p = next
			steps++
			if q, e := progressive.Run(x, st, begun, steps); !equal(p, q) || e != api.OK {
				t.Fatalf("Run is %v, %d, want %v", q, e, p)
			}
		}
		hits, effort, _ := nearest.Search(x, st, m, query, count)
		if !slices.Equal(p.Best, hits) || p.Effort != (api.Effort{Nodes: effort.Nodes, Compared: effort.Compared}) || progressive.Final(p) != len(hits) {
			t.Fatalf("the end is %v, want %v", p, hits)
		}
		if q, e := progressive.Step(x, st, p); !equal(p, q) || e != api.ErrDone {
			t.Fatalf("Step behind the end is %v, %d", q, e)
		}
		if q, e := progressive.Run(x, st, begun, api.MaxEntries); !equal(p, q) || e != api.OK {
			t.Fatalf("Run to the end is %v, %d", q, e)
		}
	}
}

// check compares what is known of a search under way with all hits.
func check(t *testing.T, x api.Tree, p api.Progress, bounds []api.Ratio, all []api.Hit) {
	t.Helper()
	if !progressive.Valid(x, p) {
		t.Fatalf("%v is not valid", p)
	}
	for i, f := range p.Open {
		if f.Bound != bounds[f.Node] || i > 0 && p.Open[i-1].Node >= f.Node {
			t.Fatalf("the open nodes are %v", p.Open)
		}
	}
	least := p.Open[0].Bound
	for _, f := range p.Open {
		if ratio.Less(f.Bound, least) {
			least = f.Bound
		}
	}
	remaining, there := progressive.Remaining(p)
	if remaining != least || !there {
		t.Fatalf("Remaining is %v, %v, want %v", remaining, there, least)
	}
	n := progressive.Final(p)
	if !slices.Equal(p.Best[:n], all[:n]) {
		t.Fatalf("the first %d of %v are final, but not of %v", n, p.Best, all)
	}
	for i, h := range p.Best {
		if ratio.Less(h.Distance, least) != (i < n) {
			t.Fatalf("%d of %v are final, with %v", n, p.Best, least)
		}
	}
}

func num(n int) api.Ratio { return api.Ratio{Num: n, Den: 1} }

func hit(d, series, start int) api.Hit {
	return api.Hit{Distance: num(d), Place: api.Place{Series: series, Start: start}}
}

// TestDone tests what P36.3 says of searches, whoever made them.
func TestDone(t *testing.T) {
	open := []api.Front{{Node: 2, Bound: num(5)}, {Node: 4, Bound: num(3)}, {Node: 6, Bound: num(9)}}
	best := []api.Hit{hit(1, 0, 0), hit(2, 0, 1), hit(3, 0, 2), hit(4, 0, 3)}
	for i, v := range []struct {
		p         api.Progress
		done      bool
		remaining api.Ratio
		there     bool
		final     int
	}{
		{api.Progress{}, true, num(0), false, 0},
		{api.Progress{Best: best}, true, num(0), false, 4},
		{api.Progress{Best: best, Count: 3, Open: open}, false, num(3), true, 2},
		{api.Progress{Best: best, Count: 4, Open: open}, false, num(3), true, 2},
		{api.Progress{Best: best, Count: 5, Open: open}, false, num(3), true, 2},
		{api.Progress{Best: best, Count: 2, Open: open}, true, num(3), true, 4},
		{api.Progress{Best: best, Count: 1, Open: open}, true, num(3), true, 4},
		{api.Progress{Best: best, Count: 0, Open: open}, false, num(3), true, 2},
		{api.Progress{Best: best, Count: -1, Open: open}, false, num(3), true, 2},
		{api.Progress{Best: best, Count: math.MaxInt, Open: open[:1]}, false, num(5), true, 4},
		{api.Progress{Count: 1, Open: open[2:]}, false, num(9), true, 0},
		{api.Progress{Best: []api.Hit{best[0], best[3], best[1]}, Count: 9, Open: open}, false, num(3), true, 1},
	} {
		if progressive.Done(v.p) != v.done || progressive.Final(v.p) != v.final {
			t.Errorf("%d: Done is %v, Final %d", i, progressive.Done(v.p), progressive.Final(v.p))
		}
		if least, there := progressive.Remaining(v.p); least != v.remaining || there != v.there {
			t.Errorf("%d: Remaining is %v, %v", i, least, there)
		}
	}
}

var (
	scheme = api.Scheme{Measure: api.Measure{Kind: 1}, Length: 2, Pieces: 2, Cuts: []int{0, 5}}
	series = api.Store{Series: [][]int{{1, 2, 3, -4, 9, 1, -1}}}
)

// TestValid tests P36.1, and the errors of P36.2 and P36.3.
func TestValid(t *testing.T) {
	x := trial.Tree(func(int) int { return 0 }, scheme, series)
	begun, e := progressive.Begin(x, series, scheme.Measure, []int{1, 2}, 3)
	if e != api.OK || len(x.Nodes) < 5 {
		t.Fatalf("%d, %d nodes", e, len(x.Nodes))
	}
	good := func(f func(p *api.Progress)) {
		p := copies.Progress(begun)
		f(&p)
		if !progressive.Valid(x, p) {
			t.Errorf("%v is not valid", p)
		}
	}
	good(func(p *api.Progress) {})
	good(func(p *api.Progress) { p.Open = nil })
	good(func(p *api.Progress) { p.Effort = api.Effort{Nodes: -1, Compared: math.MaxInt, Pruned: 9} })
	good(func(p *api.Progress) { p.Best = []api.Hit{hit(0, 9, 9), hit(0, 9, 10), hit(3, -1, 0)} })
	good(func(p *api.Progress) { p.Open = []api.Front{{Node: 1, Bound: num(99)}, {Node: 4, Bound: num(0)}} })
	bad := func(f func(p *api.Progress)) {
		p := copies.Progress(begun)
		f(&p)
		if progressive.Valid(x, p) {
			t.Errorf("%v is valid", p)
		}
		if q, e := progressive.Step(x, series, p); !reflect.DeepEqual(q, p) || e != api.ErrState {
			t.Errorf("Step of %v is %v, %d", p, q, e)
		}
		if q, e := progressive.Run(x, series, p, 3); !reflect.DeepEqual(q, p) || e != api.ErrState {
			t.Errorf("Run of %v is %v, %d", p, q, e)
		}
		if q, e := progressive.Run(x, series, p, 0); !reflect.DeepEqual(q, p) || e != api.OK {
			t.Errorf("Run of no steps of %v is %v, %d", p, q, e)
		}
	}
	bad(func(p *api.Progress) { *p = api.Progress{} })
	bad(func(p *api.Progress) { p.Measure.Band = 1 })
	bad(func(p *api.Progress) { p.Measure.Kind = 2 })
	bad(func(p *api.Progress) { p.Query = p.Query[:1] })
	bad(func(p *api.Progress) { p.Query = []int{1, 2, 3} })
	bad(func(p *api.Progress) { p.Query[0] = 1001 })
	bad(func(p *api.Progress) { p.Count = 0 })
	bad(func(p *api.Progress) { p.Count = 65 })
	bad(func(p *api.Progress) { p.Best = []api.Hit{hit(0, 0, 0), hit(0, 0, 1), hit(0, 0, 2), hit(0, 0, 3)} })
	bad(func(p *api.Progress) { p.Best = []api.Hit{hit(1, 0, 0), hit(0, 0, 1)} })
	bad(func(p *api.Progress) { p.Best = []api.Hit{hit(1, 0, 1), hit(1, 0, 0)} })
	bad(func(p *api.Progress) { p.Best = []api.Hit{hit(1, 0, 0), hit(2, 0, 0)} })
	bad(func(p *api.Progress) { p.Best = []api.Hit{{}} })
	bad(func(p *api.Progress) { p.Best = []api.Hit{{Distance: api.Ratio{Num: 2, Den: 2}}} })
	bad(func(p *api.Progress) { p.Open[0].Node = -1 })
	bad(func(p *api.Progress) { p.Open[0].Node = len(x.Nodes) })
	bad(func(p *api.Progress) { p.Open[0].Bound = api.Ratio{Num: 2, Den: 2} })
	bad(func(p *api.Progress) { p.Open = append(p.Open, p.Open[0]) })
	bad(func(p *api.Progress) { p.Open = []api.Front{{Node: 2, Bound: num(0)}, {Node: 1, Bound: num(0)}} })
	if progressive.Valid(api.Tree{}, begun) {
		t.Error("a search is valid for a tree that is not")
	}
}

// TestErrors tests the other errors of P36.1 to P36.3.
func TestErrors(t *testing.T) {
	x := trial.Tree(func(int) int { return 0 }, scheme, series)
	begun, _ := progressive.Begin(x, series, scheme.Measure, []int{1, 2}, 9)
	for i, v := range []struct {
		t     api.Tree
		st    api.Store
		q     []int
		count int
		e     api.Errno
	}{
		{api.Tree{}, series, []int{1, 2}, 0, api.ErrWord},
		{x, api.Store{}, []int{1, 2}, 0, api.ErrTree},
		{x, series, []int{1}, 0, api.ErrLength},
		{x, series, []int{1, 2}, 0, api.ErrCount},
		{x, series, []int{1, 2}, 65, api.ErrCount},
	} {
		if p, e := progressive.Begin(v.t, v.st, scheme.Measure, v.q, v.count); !reflect.DeepEqual(p, api.Progress{}) || e != v.e {
			t.Errorf("%d: Begin is %v, %d", i, p, e)
		}
	}
	wrong, short := api.Store{Series: [][]int{{1001}}}, api.Store{Series: [][]int{{1, 2, 3, 4}}}
	missing := api.Store{Series: [][]int{{1, 2, 3, api.Missing, 9, 1, -1}}}
	done := copies.Progress(begun)
	done.Open = nil
	for i, v := range []struct {
		t  api.Tree
		st api.Store
		p  api.Progress
		e  api.Errno
	}{
		{api.Tree{}, wrong, api.Progress{}, api.ErrWord},
		{x, wrong, api.Progress{}, api.ErrSample},
		{x, short, api.Progress{}, api.ErrState},
	} {
		if p, e := progressive.Step(v.t, v.st, v.p); !reflect.DeepEqual(p, v.p) || e != v.e {
			t.Errorf("%d: Step is %v, %d", i, p, e)
		}
		if p, e := progressive.Run(v.t, v.st, v.p, 1); !reflect.DeepEqual(p, v.p) || e != v.e {
			t.Errorf("%d: Run is %v, %d", i, p, e)
		}
	}
	if p, e := progressive.Step(x, short, done); !reflect.DeepEqual(p, done) || e != api.ErrDone {
		t.Errorf("Step of a search that is done is %v, %d", p, e)
	}
	if p, e := progressive.Run(x, short, done, 1); !reflect.DeepEqual(p, done) || e != api.OK {
		t.Errorf("Run of a search that is done is %v, %d", p, e)
	}
	for _, steps := range []int{-1, api.MaxEntries + 1, math.MinInt} {
		if p, e := progressive.Run(api.Tree{}, wrong, begun, steps); !reflect.DeepEqual(p, begun) || e != api.ErrRange {
			t.Errorf("Run of %d steps is %v, %d", steps, p, e)
		}
	}
	// The tree has windows that these stores have not; the search finds out when it looks into their leaf.
	for _, st := range []api.Store{short, missing, {}, {Series: [][]int{nil, {1, 2, 3, 4, 5, 6, 7, 8}}}} {
		if p, e := progressive.Run(x, st, begun, api.MaxEntries); !reflect.DeepEqual(p, begun) || e != api.ErrPlace {
			t.Errorf("Run is %v, %d", p, e)
		}
		if p, e := progressive.Run(x, st, begun, 1); p.Effort.Nodes != 1 || e != api.OK {
			t.Errorf("Run of a step is %v, %d", p, e)
		}
	}
}

// TestTwice tests what P36.2 and P36.3 say of a hit that is found again.
func TestTwice(t *testing.T) {
	one := api.Scheme{Measure: api.Measure{Kind: 1}, Length: 2, Pieces: 1}
	st := api.Store{Series: [][]int{{1, 2}}}
	x := trial.Tree(func(int) int { return 3 }, one, st)
	p := api.Progress{Measure: one.Measure, Query: []int{1, 2}, Count: 3, Best: []api.Hit{hit(0, 0, 0)}, Open: []api.Front{{Bound: num(0)}}}
	q, e := progressive.Step(x, st, p)
	if !slices.Equal(q.Best, []api.Hit{hit(0, 0, 0), hit(0, 0, 0)}) || e != api.OK {
		t.Errorf("Step is %v, %d", q, e)
	}
	if progressive.Valid(x, q) {
		t.Error("a search with a place twice is valid")
	}
	if q, e := progressive.Run(x, st, p, 2); !reflect.DeepEqual(q, p) || e != api.ErrState {
		t.Errorf("Run is %v, %d", q, e)
	}
}
