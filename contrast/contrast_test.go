package contrast_test

import (
	"math"
	"math/rand"
	"slices"
	"testing"

	"shapesearch/api"
	"shapesearch/contrast"
	"shapesearch/profile"
	"shapesearch/ratio"
	"shapesearch/trial"
)

func num(n int) api.Ratio { return api.Ratio{Num: n, Den: 1} }

func of(start, near, far int) api.Contrast {
	return api.Contrast{Start: start, Near: api.Neighbour{At: 1, Distance: num(near)}, Far: api.Neighbour{At: 2, Distance: num(far)}}
}

// TestOf tests P43.1.
func TestOf(t *testing.T) {
	r := rand.New(rand.NewSource(79))
	for i := range 100 {
		a, b := trial.Samples(r.Intn, r.Intn(50), 1+r.Intn(15), 15), trial.Samples(r.Intn, r.Intn(30), 15, 15)
		m, length, zone := trial.Measure(r.Intn, 1+i%5), 2+r.Intn(5), 1+r.Intn(9)
		p, _ := profile.Of(a, m, length, zone)
		j, _ := profile.Join(a, b, m, length)
		var want []api.Contrast
		for start := range p.All {
			if p.All[start].At >= 0 && j[start].At >= 0 {
				want = append(want, api.Contrast{Start: start, Near: p.All[start], Far: j[start]})
			}
		}
		if l, e := contrast.Of(a, b, m, length, zone); !slices.Equal(l, want) || e != api.OK {
			t.Fatalf("Of is %v, %d, want %v", l, e, want)
		}
	}
	// A peak that a has twice, and b never.
	l, _ := contrast.Of([]int{0, 9, 0, 0, 0, 9, 0, 0}, []int{0, 0, 0, 0}, api.Measure{Kind: 1}, 2, 2)
	if top, e := contrast.Top(l, 1, 1); len(top) != 1 || top[0].Start != 0 || e != api.OK {
		t.Errorf("the first contrast is %v, %d", top, e)
	}
	wrong, euclid := []int{1001}, api.Measure{Kind: 1}
	for i, v := range []struct {
		a, b         []int
		m            api.Measure
		length, zone int
		e            api.Errno
	}{
		{wrong, wrong, trial.BadMeasure(), 1, 0, api.ErrMeasure},
		{wrong, make([]int, 2001), euclid, 1, 0, api.ErrSample},
		{nil, wrong, euclid, 1, 0, api.ErrLength},
		{nil, wrong, euclid, 2, 0, api.ErrZone},
		{nil, wrong, euclid, 2, 1, api.ErrSample},
		{nil, make([]int, 2001), euclid, 2, 1, api.ErrLimit},
		{nil, nil, euclid, 2, 1, api.OK},
	} {
		if l, e := contrast.Of(v.a, v.b, v.m, v.length, v.zone); len(l) > 0 || e != v.e {
			t.Errorf("%d: Of is %v, %d", i, l, e)
		}
	}
}

// TestSharper tests P43.2.
func TestSharper(t *testing.T) {
	l := []api.Contrast{of(9, 9, 5), of(7, 0, 4), of(2, 1, 4), of(3, 1, 4), of(0, 0, 0)}
	for i, a := range l {
		for j, b := range l {
			if contrast.Sharper(a, b) != (i < j) {
				t.Errorf("Sharper(%v, %v) is wrong", a, b)
			}
		}
	}
	bad := of(1, 5, 9)
	bad.Far.Distance = api.Ratio{Num: 2, Den: 2}
	if contrast.Sharper(of(2, 5, 9), bad) || !contrast.Sharper(bad, of(2, 5, 9)) || !contrast.Sharper(of(2, 4, 1), bad) {
		t.Error("two distances do not count as equal if one is not valid")
	}
}

// TestTop tests P43.2.
func TestTop(t *testing.T) {
	l := []api.Contrast{of(5, 3, 4), of(9, 1, 4), of(6, 0, 7), of(1<<62, 0, 1), of(1, 2, 3)}
	for i, v := range []struct {
		count, zone int
		want        []api.Contrast
	}{
		{64, 1, []api.Contrast{l[2], l[1], l[0], l[4], l[3]}},
		{64, 4, []api.Contrast{l[2], l[4], l[3]}},
		{2, 3, []api.Contrast{l[2], l[1]}},
	} {
		before := slices.Clone(l)
		if top, e := contrast.Top(l, v.count, v.zone); !slices.Equal(top, v.want) || e != api.OK || !slices.Equal(l, before) {
			t.Errorf("%d: Top is %v, %d", i, top, e)
		}
	}
	same := []api.Contrast{of(5, 1, 1), of(5, 1, 1)}
	same[1].Near.At = 77
	if top, e := contrast.Top(same, 2, 1); !slices.Equal(top, same[:1]) || e != api.OK {
		t.Errorf("Top of equal ones is %v, %d", top, e)
	}
	r := rand.New(rand.NewSource(80))
	for range 300 {
		l := make([]api.Contrast, r.Intn(40))
		for i := range l {
			l[i] = of(r.Intn(60), r.Intn(4), r.Intn(4))
		}
		count, zone := 1+r.Intn(9), 1+r.Intn(9)
		var want []api.Contrast
		for len(want) < count {
			best := -1
			for i, c := range l {
				near := slices.ContainsFunc(want, func(o api.Contrast) bool { return max(o.Start-c.Start, c.Start-o.Start) < zone })
				if !near && (best < 0 || contrast.Sharper(c, l[best])) {
					best = i
				}
			}
			if best < 0 {
				break
			}
			want = append(want, l[best])
		}
		if top, e := contrast.Top(l, count, zone); !slices.Equal(top, want) || e != api.OK {
			t.Fatalf("Top is %v, %d, want %v", top, e, want)
		}
	}
	for i, v := range []struct {
		count, zone int
		e           api.Errno
	}{
		{0, 0, api.ErrCount}, {65, 0, api.ErrCount}, {math.MinInt, 1, api.ErrCount}, {1, 0, api.ErrZone}, {1, 65, api.ErrZone}, {64, 64, api.OK},
	} {
		if top, e := contrast.Top(nil, v.count, v.zone); len(top) > 0 || e != v.e {
			t.Errorf("%d: Top is %v, %d", i, top, e)
		}
	}
}

// TestDistinct tests P43.2.
func TestDistinct(t *testing.T) {
	l := []api.Contrast{of(5, 3, 4), of(9, 4, 4), of(1, 3, 3), of(2, 0, 9), of(2, 0, 9)}
	for n, want := range map[int][]int{3: {5, 2, 2}, 0: {2, 2}, 4: {2, 2}, 9: nil} {
		if starts, e := contrast.Distinct(l, num(n)); !slices.Equal(starts, want) || e != api.OK {
			t.Errorf("Distinct within %d is %v, %d", n, starts, e)
		}
	}
	for _, limit := range []api.Ratio{{}, {Num: 2, Den: 2}, {Num: -1, Den: 1}} {
		if starts, e := contrast.Distinct(l, limit); len(starts) > 0 || e != api.ErrRange {
			t.Errorf("Distinct within %v is %v, %d", limit, starts, e)
		}
	}
	r := rand.New(rand.NewSource(81))
	a := trial.Samples(r.Intn, 40, 15, 0)
	self, _ := contrast.Of(a, a, api.Measure{Kind: 1}, 4, 4)
	if starts, e := contrast.Distinct(self, api.Ratio{Num: 1, Den: 2}); len(starts) > 0 || e != api.OK || !ratio.Valid(self[0].Near.Distance) {
		t.Errorf("a series has distinct windows %v against itself, %d", starts, e)
	}
}
