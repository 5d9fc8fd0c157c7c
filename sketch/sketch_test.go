package sketch_test

import (
	"math"
	"math/big"
	"math/rand"
	"slices"
	"testing"

	"shapesearch/api"
	"shapesearch/normal"
	"shapesearch/pieces"
	"shapesearch/ratio"
	"shapesearch/root"
	"shapesearch/sketch"
	"shapesearch/word"
)

func random(r *rand.Rand, n, spread int) []int {
	l := make([]int, n)
	for i := range l {
		l[i] = r.Intn(2*spread+1) - spread
	}
	return l
}

func of(t *testing.T, x []int, n int) api.Sketch {
	s, e := sketch.Of(x, n)
	if e != api.OK {
		t.Fatalf("the sketch of %v in %d: %d", x, n, e)
	}
	return s
}

func same(a, b api.Sketch) bool {
	return a.Length == b.Length && a.Energy == b.Energy && slices.Equal(a.Sums, b.Sums)
}

// TestOf tests P21.1.
func TestOf(t *testing.T) {
	for i, v := range []struct {
		x    []int
		n    int
		want api.Sketch
		e    api.Errno
	}{
		{[]int{1, 2, 3, 4}, 2, api.Sketch{Length: 4, Sums: []int{-8, 8}, Energy: 80}, api.OK},
		{[]int{7, 7, 7}, 2, api.Sketch{Length: 3, Sums: []int{0, 0}}, api.OK},
		{[]int{7}, 9, api.Sketch{}, api.ErrLength},
		{make([]int, 33), 1, api.Sketch{}, api.ErrLength},
		{[]int{7, 1001}, 9, api.Sketch{}, api.ErrSample},
		{[]int{7, 7}, 3, api.Sketch{}, api.ErrRange},
		{[]int{7, 7}, 0, api.Sketch{}, api.ErrRange},
	} {
		if s, e := sketch.Of(v.x, v.n); !same(s, v.want) || e != v.e {
			t.Errorf("%d: Of is %v, %d", i, s, e)
		}
	}
}

// badSketches returns sketches that are not valid.
func badSketches() []api.Sketch {
	full := slices.Repeat([]int{0}, 9)
	return []api.Sketch{
		{}, {Length: 1, Sums: []int{0}}, {Length: 33, Sums: []int{0}}, {Length: 4}, {Length: 2, Sums: full[:3]}, {Length: 32, Sums: full},
		{Length: 4, Sums: []int{1<<21 + 1, 0}, Energy: 64000000}, {Length: 4, Sums: []int{-1<<21 - 1, 0}, Energy: 64000000}, {Length: 4, Sums: []int{math.MinInt, math.MaxInt}, Energy: 80},
		{Length: 4, Sums: []int{0}, Energy: -4}, {Length: 4, Sums: []int{0}, Energy: 82}, {Length: 4, Sums: []int{0}, Energy: 64000004}, {Length: 4, Sums: []int{0}, Energy: math.MinInt},
		{Length: 4, Sums: []int{-8, 8}, Energy: 60}, {Length: 32, Sums: []int{1 << 21, 1 << 21}, Energy: 32768000000},
	}
}

// TestErrors tests the errors of P21.2 to P21.4.
func TestErrors(t *testing.T) {
	good := api.Sketch{Length: 4, Sums: []int{-8, 8}, Energy: 80}
	all := api.Interval{Low: api.Least, High: api.Most}
	check := func(a, b api.Sketch, want api.Errno) {
		if c, e := sketch.Upper(a, b); c != 0 || e != want {
			t.Errorf("Upper of %v and %v is %d, %d", a, b, c, e)
		}
		if c, e := sketch.Gap(a, b); c != (api.Ratio{}) || e != want {
			t.Errorf("Gap of %v and %v is %v, %d", a, b, c, e)
		}
	}
	for _, s := range badSketches() {
		check(s, good, api.ErrForm)
		check(good, s, api.ErrForm)
		if a, e := sketch.Region(s, []api.Interval{{Low: math.MinInt}}); a != (api.Ratio{}) || e != api.ErrForm {
			t.Errorf("Region of %v is %v, %d", s, a, e)
		}
	}
	check(good, api.Sketch{Length: 4, Sums: []int{0}}, api.ErrLength)
	check(good, api.Sketch{Length: 5, Sums: []int{0, 0}}, api.ErrLength)
	for i, v := range []struct {
		l []api.Interval
		e api.Errno
	}{
		{[]api.Interval{all, all}, api.OK},
		{nil, api.ErrLength},
		{[]api.Interval{{Low: math.MinInt}}, api.ErrLength},
		{[]api.Interval{all, all, all}, api.ErrLength},
		{[]api.Interval{{Low: 1}, {Low: api.Least - 1, High: 5}}, api.ErrRange},
		{[]api.Interval{all, {Low: api.Most + 1, High: 5}}, api.ErrRange},
		{[]api.Interval{all, {Low: 1, High: api.Most + 1}}, api.ErrRange},
		{[]api.Interval{all, {Low: 1, High: math.MinInt}}, api.ErrRange},
	} {
		if a, e := sketch.Region(good, v.l); e != v.e || e != api.OK && a != (api.Ratio{}) {
			t.Errorf("%d: Region is %v, %d", i, a, e)
		}
	}
}

// TestExamples tests P21.2 to P21.4 by the examples of the chapter, and by cases that are written out.
func TestExamples(t *testing.T) {
	x, y, flat := of(t, []int{1, 2, 3, 4}, 2), of(t, []int{4, 3, 2, 1}, 2), of(t, []int{5, 5, 5, 5}, 2)
	r := func(num, den int) api.Ratio { return api.Ratio{Num: num, Den: den} }
	if c, e := sketch.Upper(x, y); c != -12 || e != api.OK {
		t.Errorf("Upper is %d, %d", c, e)
	}
	// The sum has no exact quotient: 1 * -1 / 2 is rounded up to 0, and 3 / 5 down to 0.
	odd := api.Sketch{Length: 5, Sums: []int{1, -1}, Energy: 5}
	if c, e := sketch.Upper(odd, api.Sketch{Length: 5, Sums: []int{-1, 1}, Energy: 0}); c != 0 || e != api.OK {
		t.Errorf("Upper is %d, %d", c, e)
	}
	for i, v := range []struct {
		a, b api.Sketch
		want api.Ratio
	}{
		{x, y, r(34, 25)}, {x, x, r(0, 1)}, {x, flat, r(1, 1)}, {flat, x, r(1, 1)}, {flat, flat, r(0, 1)},
		{of(t, []int{0, 1000}, 2), of(t, []int{1000, 0}, 2), r(2, 1)},
		{of(t, []int{-1000, 1000}, 2), of(t, []int{1000, -1000}, 2), r(2, 1)},
		{of(t, []int{1, 0, 0, 0}, 4), of(t, []int{0, 1, 1, 0}, 4), r(4, 3)},
	} {
		if a, e := sketch.Gap(v.a, v.b); a != v.want || e != api.OK {
			t.Errorf("%d: Gap is %v, %d", i, a, e)
		}
	}
	const least, most = api.Least, api.Most
	h := big.NewRat(2*837225, 1<<22)
	h.Sub(big.NewRat(1, 1), h).Mul(h, h).Sub(big.NewRat(1, 1), h)
	for i, v := range []struct {
		q    api.Sketch
		l    []api.Interval
		want *big.Rat
	}{
		{x, []api.Interval{{Low: 0, High: most}, {Low: least, High: -1}}, h},
		{x, []api.Interval{{Low: 1, High: 0}, {Low: 1000, High: most}}, big.NewRat(0, 1)},
		{flat, []api.Interval{{Low: 1, High: 0}, {Low: 1000, High: most}}, big.NewRat(0, 1)},
		{flat, []api.Interval{{Low: 0, High: most}, {Low: least, High: 0}}, big.NewRat(0, 1)},
		{flat, []api.Interval{{Low: 0, High: most}, {Low: least, High: -1}}, big.NewRat(1, 1)},
		{flat, []api.Interval{{Low: 1, High: most}, {Low: least, High: most}}, big.NewRat(1, 1)},
		{x, []api.Interval{{Low: least, High: most}, {Low: least, High: most}}, big.NewRat(0, 1)},
		{x, []api.Interval{{Low: most, High: most}, {Low: least, High: least}}, big.NewRat(2, 1)},
		{x, []api.Interval{{Low: 2000, High: most}, {Low: least, High: most}}, big.NewRat(2, 1)},
	} {
		if a, e := sketch.Region(v.q, v.l); big.NewRat(int64(a.Num), int64(max(a.Den, 1))).Cmp(v.want) != 0 || e != api.OK {
			t.Errorf("%d: Region is %v, %d, want %v", i, a, e, v.want)
		}
	}
}

// TestBounds tests P21.2 and P21.3: that Upper and Gap are what they say, and bounds.
func TestBounds(t *testing.T) {
	r := rand.New(rand.NewSource(31))
	for range 3000 {
		m := 2 + r.Intn(31)
		n := 1 + r.Intn(min(m, 8))
		x, y := random(r, m, r.Intn(1001)), random(r, m, r.Intn(1001))
		a, b := of(t, x, n), of(t, y, n)
		starts, _ := pieces.Starts(m, n)
		products, ra, rb := 0, a.Energy, b.Energy
		for p := range n {
			l := float64(starts[p+1] - starts[p])
			products += int(math.Ceil(float64(a.Sums[p]*b.Sums[p]) / l))
			ra -= int(math.Floor(float64(a.Sums[p]*a.Sums[p]) / l))
			rb -= int(math.Floor(float64(b.Sums[p]*b.Sums[p]) / l))
		}
		want := int(math.Floor(float64(products+root.Ceil(ra)*root.Ceil(rb)) / float64(m)))
		c, e := sketch.Upper(a, b)
		if product, _ := normal.Product(x, y); c != want || c < product || e != api.OK {
			t.Fatalf("Upper of %v and %v is %d, %d, want %d, at least %d", a, b, c, e, want, product)
		}
		g, e := sketch.Gap(a, b)
		back, _ := sketch.Gap(b, a)
		if gap, _ := normal.Gap(x, y); !ratio.Valid(g) || ratio.Less(gap, g) || g != back || e != api.OK {
			t.Fatalf("the bound of %v and %v is %v, %d, and not at most %v", x, y, g, e, gap)
		}
		if v, w := a.Energy/m, b.Energy/m; v > 0 && w > 0 && c*c < v*w {
			exact, one := big.NewRat(int64(c)*int64(c), int64(v*w)), big.NewRat(1, 1)
			if c < 0 {
				exact.Neg(exact)
			}
			if one.Sub(one, exact).Cmp(big.NewRat(int64(g.Num), int64(g.Den))) != 0 {
				t.Fatalf("the bound of %v and %v is %v, want %v", x, y, g, one)
			}
		}
	}
}

// slowRegion is the bound of a region by its definition, for sketches with some energy and no empty intervals.
func slowRegion(q api.Sketch, l []api.Interval) *big.Rat {
	h := big.NewRat(1, 1)
	starts, _ := pieces.Starts(q.Length, len(q.Sums))
	for p, i := range l {
		at, _ := root.Quotient(1024*q.Sums[p], q.Energy)
		d := big.NewInt(int64(max(0, 16*i.Low-(at+1), at-16*(i.High+1))))
		h.Sub(h, new(big.Rat).SetFrac(d.Mul(d, d), big.NewInt(int64((1<<21)*(starts[p+1]-starts[p])))))
	}
	one := big.NewRat(1, 1)
	if h.Cmp(big.NewRat(-1, 1)) < 0 {
		h.SetInt64(-1)
	}
	if h.Sign() < 0 {
		return one.Add(one, h.Mul(h, h))
	}
	return one.Sub(one, h.Mul(h, h))
}

// TestRegion tests P21.4.
func TestRegion(t *testing.T) {
	r := rand.New(rand.NewSource(32))
	positive, great := 0, 0
	for range 5000 {
		m := 2 + r.Intn(31)
		n := 1 + r.Intn(min(m, 8))
		x, y := random(r, m, 1+r.Intn(1000)), random(r, m, 1+r.Intn(1000))
		if r.Intn(3) == 0 {
			slices.Sort(x)
			slices.Sort(y)
			slices.Reverse(y)
		}
		q := of(t, x, n)
		l, e := word.Coordinates(api.Scheme{Measure: api.Measure{Kind: api.KindNormal}, Length: m, Pieces: n}, y)
		if e != api.OK || q.Energy == 0 {
			continue
		}
		intervals := make([]api.Interval, n)
		for p, c := range l {
			intervals[p] = api.Interval{Low: c - r.Intn(20), High: c + r.Intn(20)}
			switch r.Intn(8) {
			case 0:
				intervals[p].Low = api.Least
			case 1:
				intervals[p].High = api.Most
			}
		}
		a, e := sketch.Region(q, intervals)
		if want := slowRegion(q, intervals); want.Cmp(big.NewRat(int64(a.Num), int64(max(a.Den, 1)))) != 0 || e != api.OK {
			t.Fatalf("Region of %v for %v is %v, %d, want %v", q, intervals, a, e, want)
		}
		if gap, _ := normal.Gap(x, y); ratio.Less(gap, a) {
			t.Fatalf("%v is no bound of the gap %v", a, gap)
		}
		if a.Num > 0 {
			positive++
		}
		if a.Num > a.Den {
			great++
		}
	}
	if positive < 100 || great < 100 {
		t.Errorf("only %d bounds are positive, and %d greater than 1", positive, great)
	}
}
