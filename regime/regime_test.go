package regime_test

import (
	"math"
	"math/rand"
	"slices"
	"testing"

	"shapesearch/api"
	"shapesearch/profile"
	"shapesearch/ratio"
	"shapesearch/regime"
	"shapesearch/trial"
)

// made returns a profile in which each start has this neighbour, none for -1, all at the distance 0.
func made(length int, at ...int) api.Profile {
	zero := api.Ratio{Den: 1}
	none := slices.Repeat([]api.Neighbour{{At: -1, Distance: zero}}, len(at))
	p := api.Profile{Measure: api.Measure{Kind: 1}, Length: length, Zone: 1, All: slices.Clone(none), Left: slices.Clone(none), Right: slices.Clone(none)}
	for i, k := range at {
		p.All[i] = api.Neighbour{At: k, Distance: zero}
		if k > i {
			p.Right[i] = p.All[i]
		} else {
			p.Left[i] = p.All[i]
		}
	}
	return p
}

// TestArcs tests P42.1.
func TestArcs(t *testing.T) {
	for i, v := range []struct {
		p    api.Profile
		want []int
	}{
		{made(2, 2, 3, 0, 1), []int{0, 2, 4, 2}},
		{made(2, 1, 0, -1, 4, 3), []int{0, 2, 0, 0, 2}},
		{made(2), nil},
		{made(2, -1), []int{0}},
	} {
		if l, e := regime.Arcs(v.p); !slices.Equal(l, v.want) || e != api.OK {
			t.Errorf("%d: Arcs is %v, %d", i, l, e)
		}
	}
}

// TestCorrected tests P42.2 and P42.3 by a case that is written out.
func TestCorrected(t *testing.T) {
	// Over the starts go 0, 2, 2, 0, 2, 2, 0, 0 arcs.
	p := made(2, 2, -1, 0, 5, -1, 3, -1, -1)
	r := func(num, den int) api.Ratio { return api.Ratio{Num: num, Den: den} }
	want := []api.Ratio{r(1, 1), r(1, 1), r(2, 3), r(0, 1), r(1, 2), r(8, 15), r(0, 1), r(1, 1)}
	if l, e := regime.Corrected(p); !slices.Equal(l, want) || e != api.OK {
		t.Errorf("Corrected is %v, %d", l, e)
	}
	for i, v := range []struct {
		count, apart int
		want         []int
	}{
		{64, 1, []int{3, 6, 4, 5, 2}}, {64, 2, []int{3, 6}}, {3, 1, []int{3, 6, 4}}, {64, 3, []int{3, 6}}, {64, 4, []int{3}}, {1, 2000, []int{3}},
	} {
		if l, e := regime.Cuts(p, v.count, v.apart); !slices.Equal(l, v.want) || e != api.OK {
			t.Errorf("%d: Cuts is %v, %d", i, l, e)
		}
	}
	// More arcs than expected count as 1.
	if l, e := regime.Corrected(made(2, 4, 4, 4, 4, 0)); !slices.Equal(l, slices.Repeat([]api.Ratio{r(1, 1)}, 5)) || e != api.OK {
		t.Errorf("Corrected is %v, %d", l, e)
	}
	for _, p := range []api.Profile{made(2), made(2, 1, 0, -1), made(32, -1, -1, -1, -1)} {
		if l, e := regime.Cuts(p, 5, 1); len(l) > 0 || e != api.OK {
			t.Errorf("Cuts of %d starts is %v, %d", len(p.All), l, e)
		}
	}
}

// TestRandom tests P42.1 to P42.3 by their definitions.
func TestRandom(t *testing.T) {
	r := rand.New(rand.NewSource(78))
	for i := range 200 {
		p, _ := profile.Of(trial.Samples(r.Intn, r.Intn(70), 1+r.Intn(15), 40), trial.Measure(r.Intn, 1+i%5), 2+r.Intn(5), 1+r.Intn(6))
		arcs, e := regime.Arcs(p)
		values, e2 := regime.Corrected(p)
		n := len(p.All)
		if len(arcs) != n || len(values) != n || e != api.OK || e2 != api.OK {
			t.Fatalf("Arcs is %v, %d, Corrected %v, %d", arcs, e, values, e2)
		}
		var all []int
		for x := range n {
			over := 0
			for i, k := range p.All {
				if k.At != -1 && min(i, k.At) < x && max(i, k.At) >= x {
					over++
				}
			}
			want := api.Ratio{Num: 1, Den: 1}
			if x >= p.Length && x <= n-p.Length {
				all = append(all, x)
				if v, e := ratio.Make(over*n, 2*x*(n-x)); e == api.OK && ratio.Less(v, want) {
					want = v
				}
			}
			if arcs[x] != over || values[x] != want {
				t.Fatalf("over %d go %d, %v, want %d, %v", x, arcs[x], values[x], over, want)
			}
		}
		count, apart := 1+r.Intn(6), 1+r.Intn(12)
		var cuts []int
		for len(cuts) < count {
			best := -1
			for _, x := range all {
				near := slices.ContainsFunc(cuts, func(y int) bool { return max(x-y, y-x) < apart })
				if !near && (best < 0 || ratio.Less(values[x], values[best])) {
					best = x
				}
			}
			if best < 0 {
				break
			}
			cuts = append(cuts, best)
		}
		if l, e := regime.Cuts(p, count, apart); !slices.Equal(l, cuts) || e != api.OK {
			t.Fatalf("Cuts is %v, %d, want %v", l, e, cuts)
		}
	}
}

// TestErrors tests the errors of P42.1 to P42.3.
func TestErrors(t *testing.T) {
	good, bad := made(2, 1, 0, -1), made(2, 1, 0, -1)
	bad.Length = 1
	if l, e := regime.Arcs(bad); len(l) > 0 || e != api.ErrState {
		t.Errorf("Arcs is %v, %d", l, e)
	}
	if l, e := regime.Corrected(bad); len(l) > 0 || e != api.ErrState {
		t.Errorf("Corrected is %v, %d", l, e)
	}
	for i, v := range []struct {
		p            api.Profile
		count, apart int
		e            api.Errno
	}{
		{bad, 0, 0, api.ErrState},
		{good, 0, 0, api.ErrCount},
		{good, 65, 0, api.ErrCount},
		{good, 1, 0, api.ErrZone},
		{good, 1, 2001, api.ErrZone},
		{good, 1, math.MinInt, api.ErrZone},
	} {
		if l, e := regime.Cuts(v.p, v.count, v.apart); len(l) > 0 || e != v.e {
			t.Errorf("%d: Cuts is %v, %d", i, l, e)
		}
	}
}
