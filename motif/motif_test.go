package motif_test

import (
	"math"
	"math/rand"
	"slices"
	"testing"

	"shapesearch/api"
	"shapesearch/measure"
	"shapesearch/motif"
	"shapesearch/profile"
	"shapesearch/ratio"
	"shapesearch/trial"
)

func num(n int) api.Ratio { return api.Ratio{Num: n, Den: 1} }

func abs(n int) int { return max(n, -n) }

// slow takes pairs by the definition.
func slow(p api.Profile, count int) []api.Motif {
	var all, taken []api.Motif
	for i, n := range p.All {
		if n.At >= 0 {
			all = append(all, api.Motif{A: min(i, n.At), B: max(i, n.At), Length: p.Length, Distance: n.Distance})
		}
	}
	for len(taken) < count {
		best := -1
		for i, x := range all {
			near := slices.ContainsFunc(taken, func(y api.Motif) bool {
				return min(abs(x.A-y.A), abs(x.A-y.B), abs(x.B-y.A), abs(x.B-y.B)) < p.Zone
			})
			if near {
				continue
			}
			if best < 0 || ratio.Less(x.Distance, all[best].Distance) || x.Distance == all[best].Distance && (x.A < all[best].A || x.A == all[best].A && x.B < all[best].B) {
				best = i
			}
		}
		if best < 0 {
			break
		}
		taken = append(taken, all[best])
	}
	return taken
}

// TestPairs tests P39.1.
func TestPairs(t *testing.T) {
	p, _ := profile.Of([]int{1, 2, 9, 1, 2}, api.Measure{Kind: 1}, 2, 2)
	if l, e := motif.Pairs(p, 5); !slices.Equal(l, []api.Motif{{A: 0, B: 3, Length: 2, Distance: num(0)}}) || e != api.OK {
		t.Errorf("the example is %v, %d", l, e)
	}
	r := rand.New(rand.NewSource(73))
	for i := range 300 {
		p, _ := profile.Of(trial.Samples(r.Intn, r.Intn(70), 1+r.Intn(15), 25), trial.Measure(r.Intn, 1+i%5), 2+r.Intn(5), 1+r.Intn(8))
		count := 1 + r.Intn(9)
		if l, e := motif.Pairs(p, count); !slices.Equal(l, slow(p, count)) || e != api.OK {
			t.Fatalf("Pairs is %v, %d, want %v", l, e, slow(p, count))
		}
	}
	for i, v := range []struct {
		p     api.Profile
		count int
		e     api.Errno
	}{
		{api.Profile{}, 0, api.ErrState},
		{p, 0, api.ErrCount},
		{p, 65, api.ErrCount},
		{p, math.MinInt, api.ErrCount},
	} {
		if l, e := motif.Pairs(v.p, v.count); len(l) > 0 || e != v.e {
			t.Errorf("%d: Pairs is %v, %d", i, l, e)
		}
	}
}

// TestBest tests P39.2.
func TestBest(t *testing.T) {
	r := rand.New(rand.NewSource(74))
	for i := range 60 {
		l, m := trial.Samples(r.Intn, r.Intn(40), 1+r.Intn(15), 25), trial.Measure(r.Intn, 1+i%5)
		from := 2 + r.Intn(6)
		to, zone := from+r.Intn(6), 1+r.Intn(8)
		var want []api.Motif
		for n := from; n <= to; n++ {
			p, _ := profile.Of(l, m, n, zone)
			want = append(want, slow(p, 1)...)
		}
		if b, e := motif.Best(l, m, from, to, zone); !slices.Equal(b, want) || e != api.OK {
			t.Fatalf("Best is %v, %d, want %v", b, e, want)
		}
	}
	euclid := api.Measure{Kind: 1}
	for i, v := range []struct {
		l              []int
		m              api.Measure
		from, to, zone int
		e              api.Errno
	}{
		{make([]int, 2001), trial.BadMeasure(), 5, 4, 0, api.ErrMeasure},
		{make([]int, 2001), euclid, 1, 0, 0, api.ErrLimit},
		{[]int{1001}, euclid, 1, 0, 0, api.ErrSample},
		{nil, euclid, 1, 0, 0, api.ErrLength},
		{nil, euclid, 5, 4, 0, api.ErrZone},
		{nil, euclid, 5, 4, 1, api.ErrLength},
		{nil, euclid, 5, 33, 1, api.ErrLength},
		{nil, euclid, 5, math.MinInt, 1, api.ErrLength},
		{nil, euclid, 5, math.MaxInt, 1, api.ErrLength},
		{[]int{1, 2, 3}, euclid, 2, 32, 64, api.OK},
	} {
		if b, e := motif.Best(v.l, v.m, v.from, v.to, v.zone); len(b) > 0 || e != v.e {
			t.Errorf("%d: Best is %v, %d", i, b, e)
		}
	}
}

// TestMembers tests P39.3.
func TestMembers(t *testing.T) {
	r := rand.New(rand.NewSource(75))
	for i := range 200 {
		l, m := trial.Samples(r.Intn, 10+r.Intn(50), 1+r.Intn(9), 30), trial.Measure(r.Intn, 1+i%5)
		p, _ := profile.Of(l, m, 2+r.Intn(4), 1+r.Intn(6))
		pairs, _ := motif.Pairs(p, 1)
		if len(pairs) == 0 {
			continue
		}
		x, zone := pairs[0], 1+r.Intn(9)
		limit := p.All[r.Intn(len(p.All))].Distance
		windows, _ := profile.Windows(l, x.Length)
		var want []int
		for start, there := range windows {
			if !there || len(want) > 0 && start < want[len(want)-1]+zone {
				continue
			}
			a, _ := measure.Distance(m, l[x.A:x.A+x.Length], l[start:start+x.Length])
			b, _ := measure.Distance(m, l[x.B:x.B+x.Length], l[start:start+x.Length])
			if ratio.Cmp(a, limit) <= 0 || ratio.Cmp(b, limit) <= 0 {
				want = append(want, start)
			}
		}
		if got, e := motif.Members(l, m, x, limit, zone); !slices.Equal(got, want) || e != api.OK {
			t.Fatalf("Members is %v, %d, want %v", got, e, want)
		}
	}
	l, euclid := []int{1, 2, 9, 1, 2, api.Missing}, api.Measure{Kind: 1}
	x := func(a, b, n int) api.Motif { return api.Motif{A: a, B: b, Length: n} }
	bad := api.Ratio{Num: 2, Den: 2}
	for i, v := range []struct {
		l     []int
		m     api.Measure
		x     api.Motif
		limit api.Ratio
		zone  int
		want  []int
		e     api.Errno
	}{
		{l, euclid, x(0, 3, 2), num(0), 1, []int{0, 3}, api.OK},
		{l, euclid, x(0, 0, 2), num(0), 4, []int{0}, api.OK},
		{make([]int, 2001), trial.BadMeasure(), x(-1, 0, 1), bad, 0, nil, api.ErrMeasure},
		{make([]int, 2001), euclid, x(-1, 0, 1), bad, 0, nil, api.ErrLimit},
		{l, euclid, x(-1, 0, 1), bad, 0, nil, api.ErrLength},
		{l, euclid, x(-1, 0, 2), bad, 0, nil, api.ErrPlace},
		{l, euclid, x(0, 4, 2), bad, 0, nil, api.ErrPlace},
		{l, euclid, x(5, 0, 2), bad, 0, nil, api.ErrPlace},
		{l, euclid, x(math.MaxInt, math.MinInt, 2), bad, 0, nil, api.ErrPlace},
		{l, euclid, x(0, 3, 2), bad, 0, nil, api.ErrRange},
		{l, euclid, x(0, 3, 2), num(0), 0, nil, api.ErrZone},
		{l, euclid, x(0, 3, 2), num(0), 65, nil, api.ErrZone},
	} {
		if got, e := motif.Members(v.l, v.m, v.x, v.limit, v.zone); !slices.Equal(got, v.want) || e != v.e {
			t.Errorf("%d: Members is %v, %d", i, got, e)
		}
	}
}
