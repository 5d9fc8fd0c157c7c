package profile_test

import (
	"math"
	"math/rand"
	"slices"
	"testing"

	"shapesearch/api"
	"shapesearch/measure"
	"shapesearch/profile"
	"shapesearch/ratio"
	"shapesearch/trial"
)

func num(n int) api.Ratio { return api.Ratio{Num: n, Den: 1} }

func at(at, d int) api.Neighbour { return api.Neighbour{At: at, Distance: num(d)} }

func none() api.Neighbour { return at(-1, 0) }

// nearest returns the nearest window of a series within some starts, by trying all of them.
func nearest(x, l []int, m api.Measure, may func(j int) bool) api.Neighbour {
	best := none()
	if slices.Contains(x, api.Missing) {
		return best
	}
	for j := 0; j+len(x) <= len(l); j++ {
		y := l[j : j+len(x)]
		if slices.Contains(y, api.Missing) || !may(j) {
			continue
		}
		d, _ := measure.Distance(m, x, y)
		if best.At < 0 || ratio.Less(d, best.Distance) {
			best = api.Neighbour{At: j, Distance: d}
		}
	}
	return best
}

// TestWindows tests P37.1.
func TestWindows(t *testing.T) {
	const gone = api.Missing
	full := make([]int, api.MaxSeries)
	for i, v := range []struct {
		l      []int
		length int
		want   []bool
		e      api.Errno
	}{
		{[]int{1, 2, gone, 3, 4, 5}, 2, []bool{true, false, false, true, true}, api.OK},
		{[]int{1, 2, gone, 3, 4, 5}, 3, []bool{false, false, false, true}, api.OK},
		{[]int{1, 2}, 2, []bool{true}, api.OK},
		{[]int{1, 2}, 3, nil, api.OK},
		{nil, 32, nil, api.OK},
		{append(full[:2000:2000], 1001), 1, nil, api.ErrLimit},
		{append(full[:1999:1999], 1001), 1, nil, api.ErrSample},
		{[]int{gone + 1}, 2, nil, api.ErrSample},
		{[]int{1, 2}, 1, nil, api.ErrLength},
		{[]int{1, 2}, 33, nil, api.ErrLength},
		{[]int{1, 2}, math.MinInt, nil, api.ErrLength},
	} {
		if l, e := profile.Windows(v.l, v.length); !slices.Equal(l, v.want) || e != v.e {
			t.Errorf("%d: Windows is %v, %d", i, l, e)
		}
	}
}

// TestNearer tests P37.1.
func TestNearer(t *testing.T) {
	l := []api.Neighbour{at(9, 1), {At: 0, Distance: api.Ratio{Num: 3, Den: 2}}, at(3, 2), at(5, 2), at(0, 7)}
	for i, a := range l {
		for j, b := range l {
			if profile.Nearer(a, b) != (i < j) {
				t.Errorf("Nearer(%v, %v) is wrong", a, b)
			}
		}
		for _, b := range []api.Neighbour{none(), at(-1, 9), at(math.MinInt, 0), {At: -1}} {
			if !profile.Nearer(a, b) || profile.Nearer(b, a) || profile.Nearer(b, none()) || profile.Nearer(none(), b) {
				t.Errorf("Nearer of %v and %v is wrong", a, b)
			}
		}
	}
	if !profile.Nearer(at(1, 9), api.Neighbour{At: 2}) || profile.Nearer(api.Neighbour{At: 2}, at(1, 9)) {
		t.Error("neither of two distances is less if one is not valid")
	}
}

// TestOf tests P37.2, and that profiles are valid (P37.3).
func TestOf(t *testing.T) {
	r := rand.New(rand.NewSource(70))
	for i := range 200 {
		l, m := trial.Samples(r.Intn, r.Intn(60), 1+r.Intn(15), 20), trial.Measure(r.Intn, 1+i%5)
		length, zone := 2+r.Intn(7), 1+r.Intn(10)
		before := slices.Clone(l)
		p, e := profile.Of(l, m, length, zone)
		if n := max(0, len(l)-length+1); e != api.OK || p.Measure != m || p.Length != length || p.Zone != zone || len(p.All) != n || len(p.Left) != n || len(p.Right) != n || !slices.Equal(l, before) {
			t.Fatalf("Of is %v, %d", p, e)
		}
		for i := range p.All {
			x := l[i : i+length]
			left := nearest(x, l, m, func(j int) bool { return j <= i-zone })
			right := nearest(x, l, m, func(j int) bool { return j >= i+zone })
			all := nearest(x, l, m, func(j int) bool { return j <= i-zone || j >= i+zone })
			if p.Left[i] != left || p.Right[i] != right || p.All[i] != all {
				t.Fatalf("the neighbours of %d in %v are %v, %v, %v, want %v, %v, %v", i, l, p.Left[i], p.Right[i], p.All[i], left, right, all)
			}
		}
		if !profile.Valid(p) {
			t.Fatalf("%v is not valid", p)
		}
	}
	if p, e := profile.Of([]int{0, 1, 0, 1, 5}, api.Measure{Kind: 1}, 2, 2); p.All[0] != at(2, 0) || p.Left[0] != none() || p.Right[0] != at(2, 0) || e != api.OK {
		t.Errorf("the example is %v, %d", p, e)
	}
	for i, v := range []struct {
		l            []int
		m            api.Measure
		length, zone int
		e            api.Errno
	}{
		{make([]int, 2001), trial.BadMeasure(), 1, 0, api.ErrMeasure},
		{make([]int, 2001), api.Measure{Kind: 1}, 1, 0, api.ErrLimit},
		{[]int{1001}, api.Measure{Kind: 1}, 1, 0, api.ErrSample},
		{nil, api.Measure{Kind: 1}, 1, 0, api.ErrLength},
		{nil, api.Measure{Kind: 1}, 2, 0, api.ErrZone},
		{nil, api.Measure{Kind: 1}, 2, 65, api.ErrZone},
		{nil, api.Measure{Kind: 1}, 2, math.MinInt, api.ErrZone},
	} {
		p, e := profile.Of(v.l, v.m, v.length, v.zone)
		if e != v.e || p.Measure != (api.Measure{}) || p.Length != 0 || p.Zone != 0 || len(p.All)+len(p.Left)+len(p.Right) > 0 {
			t.Errorf("%d: Of is %v, %d", i, p, e)
		}
	}
}

// TestValid tests P37.3.
func TestValid(t *testing.T) {
	made := func() api.Profile {
		p, _ := profile.Of([]int{5, 1, 0, api.Missing, 4, 2, 5, 1, 9, 9, 3}, api.Measure{Kind: 1}, 2, 3)
		return p
	}
	check := func(want bool, f func(p *api.Profile)) {
		t.Helper()
		p := made()
		f(&p)
		if profile.Valid(p) != want {
			t.Errorf("Valid(%v) is %v", p, !want)
		}
	}
	p := made()
	if p.All[0].At != 6 || p.Left[6].At != 0 || p.Left[8].At < 0 {
		t.Fatalf("%v is of no use", p)
	}
	check(true, func(p *api.Profile) {})
	check(true, func(p *api.Profile) { p.All, p.Left, p.Right = nil, nil, nil })
	check(true, func(p *api.Profile) { p.Right[0] = at(7, 9); p.All[0] = at(7, 9) })
	check(true, func(p *api.Profile) { p.Right[0] = none(); p.All[0] = none() })
	check(false, func(p *api.Profile) { *p = api.Profile{} })
	check(false, func(p *api.Profile) { p.Measure.Gap = 1 })
	check(false, func(p *api.Profile) { p.Length = 1 })
	check(false, func(p *api.Profile) { p.Length = 33 })
	check(false, func(p *api.Profile) { p.Zone = 0 })
	check(false, func(p *api.Profile) { p.Zone = 65 })
	check(false, func(p *api.Profile) { p.Zone = math.MaxInt })
	check(false, func(p *api.Profile) { p.Zone = 7 })
	check(false, func(p *api.Profile) { p.All = p.All[1:] })
	check(false, func(p *api.Profile) { p.Left = p.Left[1:] })
	check(false, func(p *api.Profile) { p.Right = nil })
	check(false, func(p *api.Profile) { p.All[0] = none() })
	check(false, func(p *api.Profile) { p.All[0].Distance = num(1) })
	check(false, func(p *api.Profile) { p.All[2] = api.Neighbour{} })
	check(false, func(p *api.Profile) { p.Right[0] = at(2, 0); p.All[0] = p.Right[0] })
	check(false, func(p *api.Profile) { p.Right[0] = at(10, 0); p.All[0] = p.Right[0] })
	check(false, func(p *api.Profile) { p.Right[0] = at(math.MaxInt, 0); p.All[0] = p.Right[0] })
	check(false, func(p *api.Profile) { p.Right[0] = at(-2, 0) })
	check(false, func(p *api.Profile) { p.Right[0] = at(-1, 1); p.All[0] = p.Right[0] })
	check(false, func(p *api.Profile) { p.Right[0] = api.Neighbour{At: -1}; p.All[0] = p.Right[0] })
	check(false, func(p *api.Profile) { p.Right[0].Distance = api.Ratio{Num: 2, Den: 2}; p.All[0] = p.Right[0] })
	check(false, func(p *api.Profile) { p.Left[6] = at(4, 0); p.All[6] = p.Left[6] })
	check(false, func(p *api.Profile) { p.Left[6] = at(9, 0); p.All[6] = p.Left[6] })
	check(false, func(p *api.Profile) { p.Left[6] = at(-3, 0); p.All[6] = p.Left[6] })
	check(false, func(p *api.Profile) { p.Left[0] = at(math.MinInt, 0) })
	check(false, func(p *api.Profile) { p.Left[0] = at(math.MaxInt, 0); p.All[0] = p.Left[0] })
	long := slices.Repeat([]api.Neighbour{none()}, api.MaxSeries+1)
	check(false, func(p *api.Profile) { p.All, p.Left, p.Right = long, long, long })
	check(true, func(p *api.Profile) { p.All, p.Left, p.Right = long[1:], long[1:], long[1:] })
}

// TestJoin tests P37.4.
func TestJoin(t *testing.T) {
	r := rand.New(rand.NewSource(71))
	for i := range 150 {
		a, b := trial.Samples(r.Intn, r.Intn(40), 1+r.Intn(15), 15), trial.Samples(r.Intn, r.Intn(40), 15, 15)
		m, length := trial.Measure(r.Intn, 1+i%5), 2+r.Intn(6)
		l, e := profile.Join(a, b, m, length)
		if len(l) != max(0, len(a)-length+1) || e != api.OK {
			t.Fatalf("Join is %v, %d", l, e)
		}
		for i, x := range l {
			if want := nearest(a[i:i+length], b, m, func(int) bool { return true }); x != want {
				t.Fatalf("the neighbour of %d is %v, want %v", i, x, want)
			}
		}
	}
	long, wrong := make([]int, 2001), []int{1001}
	for i, v := range []struct {
		a, b   []int
		m      api.Measure
		length int
		e      api.Errno
	}{
		{long, wrong, trial.BadMeasure(), 1, api.ErrMeasure},
		{long, wrong, api.Measure{Kind: 1}, 1, api.ErrLimit},
		{wrong, long, api.Measure{Kind: 1}, 1, api.ErrSample},
		{nil, long, api.Measure{Kind: 1}, 1, api.ErrLength},
		{nil, long, api.Measure{Kind: 1}, 2, api.ErrLimit},
		{nil, wrong, api.Measure{Kind: 1}, 2, api.ErrSample},
		{nil, nil, api.Measure{Kind: 1}, 2, api.OK},
	} {
		if l, e := profile.Join(v.a, v.b, v.m, v.length); len(l) > 0 || e != v.e {
			t.Errorf("%d: Join is %v, %d", i, l, e)
		}
	}
}
