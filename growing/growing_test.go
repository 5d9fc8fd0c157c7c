package growing_test

import (
	"math"
	"math/rand"
	"reflect"
	"slices"
	"testing"

	"shapesearch/api"
	"shapesearch/copies"
	"shapesearch/growing"
	"shapesearch/profile"
	"shapesearch/trial"
)

// is reports whether a series has these samples and their profile.
func is(g api.Growing, l []int) bool {
	p, e := profile.Of(l, g.Profile.Measure, g.Profile.Length, g.Profile.Zone)
	return e == api.OK && slices.Equal(g.Values, l) && slices.Equal(g.Profile.All, p.All) && slices.Equal(g.Profile.Left, p.Left) && slices.Equal(g.Profile.Right, p.Right)
}

// TestNew tests P38.1.
func TestNew(t *testing.T) {
	m := api.Measure{Kind: 5, Gap: 3}
	if g, e := growing.New(m, 4, 9); !is(g, nil) || g.Profile.Measure != m || g.Profile.Length != 4 || g.Profile.Zone != 9 || e != api.OK {
		t.Errorf("New is %v, %d", g, e)
	}
	for i, v := range []struct {
		m            api.Measure
		length, zone int
		e            api.Errno
	}{
		{trial.BadMeasure(), 1, 0, api.ErrMeasure},
		{m, 1, 0, api.ErrLength},
		{m, 33, 0, api.ErrLength},
		{m, math.MinInt, 0, api.ErrLength},
		{m, 2, 0, api.ErrZone},
		{m, 2, 65, api.ErrZone},
	} {
		if g, e := growing.New(v.m, v.length, v.zone); !reflect.DeepEqual(g, api.Growing{}) || e != v.e {
			t.Errorf("%d: New is %v, %d", i, g, e)
		}
	}
}

// TestGrowing tests P38.2 and P38.3: whatever was added and forgotten, the profile is that of the samples.
func TestGrowing(t *testing.T) {
	r := rand.New(rand.NewSource(72))
	for i := range 60 {
		g, _ := growing.New(trial.Measure(r.Intn, 1+i%5), 2+r.Intn(5), 1+r.Intn(8))
		var l []int
		for _, sample := range trial.Samples(r.Intn, 60, 1+r.Intn(15), 15) {
			before := copies.Growing(g)
			next, e := growing.Add(g, sample)
			l = append(l, sample)
			if !is(next, l) || e != api.OK || !reflect.DeepEqual(g, before) {
				t.Fatalf("Add is %v, %d", next, e)
			}
			if n := len(g.Profile.Left); !slices.Equal(next.Profile.Left[:n], g.Profile.Left) {
				t.Fatalf("Add changes Left to %v", next.Profile.Left)
			}
			g = next
			if r.Intn(12) > 0 {
				continue
			}
			keep := r.Intn(len(l) + 5)
			next, e = growing.Forget(g, keep)
			l = l[max(0, len(l)-keep):]
			if !is(next, l) || e != api.OK {
				t.Fatalf("Forget is %v, %d", next, e)
			}
			g = next
		}
	}
}

// TestErrors tests the errors of P38.2 and P38.3.
func TestErrors(t *testing.T) {
	made := func(l ...int) api.Growing {
		g, _ := growing.New(api.Measure{Kind: 1}, 2, 2)
		for _, n := range l {
			g, _ = growing.Add(g, n)
		}
		return g
	}
	for i, change := range []func(g *api.Growing){
		func(g *api.Growing) { *g = api.Growing{} },
		func(g *api.Growing) { g.Values[0]++ },
		func(g *api.Growing) { g.Values[0] = 1001 },
		func(g *api.Growing) { g.Values = g.Values[1:] },
		func(g *api.Growing) { g.Profile.Zone = 1 },
		func(g *api.Growing) { g.Profile.Zone = 0 },
		func(g *api.Growing) { g.Profile.Length = 3 },
		func(g *api.Growing) { g.Profile.Measure.Kind = 2 },
		func(g *api.Growing) { g.Profile.Measure.Kind = 9 },
		func(g *api.Growing) { g.Profile.All[0] = g.Profile.All[1] },
		func(g *api.Growing) { g.Profile.Left = nil },
		func(g *api.Growing) { g.Profile.Right[0].Distance.Num++ },
	} {
		g := made(1, 2, 3, 1, 2, 4)
		change(&g)
		if x, e := growing.Add(g, 5000); !reflect.DeepEqual(x, g) || e != api.ErrState {
			t.Errorf("%d: Add is %v, %d", i, x, e)
		}
		if x, e := growing.Forget(g, -1); !reflect.DeepEqual(x, g) || e != api.ErrState {
			t.Errorf("%d: Forget is %v, %d", i, x, e)
		}
	}
	g := made(1, 2, 3)
	for _, n := range []int{1001, -1001, api.Missing - 1, math.MinInt} {
		if x, e := growing.Add(g, n); !reflect.DeepEqual(x, g) || e != api.ErrSample {
			t.Errorf("Add of %d is %v, %d", n, x, e)
		}
	}
	for _, n := range []int{-1, math.MinInt} {
		if x, e := growing.Forget(g, n); !reflect.DeepEqual(x, g) || e != api.ErrRange {
			t.Errorf("Forget of all but %d is %v, %d", n, x, e)
		}
	}
	if x, e := growing.Forget(g, math.MaxInt); !is(x, []int{1, 2, 3}) || e != api.OK {
		t.Errorf("Forget of nothing is %v, %d", x, e)
	}
	if x, e := growing.Forget(g, 0); !is(x, nil) || e != api.OK {
		t.Errorf("Forget of everything is %v, %d", x, e)
	}
	full := api.Growing{Values: slices.Repeat([]int{api.Missing}, api.MaxSeries)}
	full.Profile, _ = profile.Of(full.Values, api.Measure{Kind: 1}, 2, 2)
	if x, e := growing.Add(full, 5000); !reflect.DeepEqual(x, full) || e != api.ErrSample {
		t.Errorf("Add to a full series is %d", e)
	}
	if x, e := growing.Add(full, 5); !reflect.DeepEqual(x, full) || e != api.ErrLimit {
		t.Errorf("Add to a full series is %d", e)
	}
}
