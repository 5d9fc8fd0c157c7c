package bound_test

import (
	"math"
	"math/rand"
	"slices"
	"testing"

	"shapesearch/api"
	"shapesearch/bound"
	"shapesearch/envelope"
	"shapesearch/measure"
	"shapesearch/pieces"
	"shapesearch/ratio"
	"shapesearch/sketch"
)

func random(r *rand.Rand, n, spread int) []int {
	l := make([]int, n)
	for i := range l {
		l[i] = r.Intn(2*spread+1) - spread
	}
	return l
}

func num(n int) api.Ratio { return api.Ratio{Num: n, Den: 1} }

var (
	euclid = api.Measure{Kind: api.KindEuclid}
	wrong  = []api.Measure{{}, {Kind: 6}, {Kind: 1, Band: 1}, {Kind: 4, Band: 33}, {Kind: 5, Gap: 1001}}
	kinds  = [][]int{nil, {1, 3}, {3}, {6}, {1, 3, 4, 5}, {2, 1}}
	bad    = []api.Ratio{{}, {Num: 2, Den: 4}, {Num: -1, Den: 1}, {Num: 1, Den: 0}}
)

// measures returns one of each kind.
func measures(r *rand.Rand) []api.Measure {
	return []api.Measure{{Kind: 1}, {Kind: 2}, {Kind: 3}, {Kind: 4, Band: r.Intn(33)}, {Kind: 5, Gap: r.Intn(2001) - 1000}}
}

// pair returns two windows whose distance by a measure is defined.
func pair(r *rand.Rand, m api.Measure) ([]int, []int) {
	x, y := random(r, 2+r.Intn(31), 1+r.Intn(1000)), random(r, 2+r.Intn(31), 1+r.Intn(1000))
	n := min(len(x), len(y))
	switch m.Kind {
	case api.KindWarp:
		x, y = x[:min(len(x), n+m.Band)], y[:min(len(y), n+m.Band)]
	case api.KindEdit:
	default:
		x, y = x[:n], y[:n]
	}
	return x, y
}

// TestList tests P22.1.
func TestList(t *testing.T) {
	for _, m := range measures(rand.New(rand.NewSource(33))) {
		if l := bound.List(m); !slices.Equal(l, kinds[m.Kind]) {
			t.Errorf("the kinds of %v are %v", m, l)
		}
	}
	for _, m := range wrong {
		if l := bound.List(m); len(l) > 0 {
			t.Errorf("the kinds of %v are %v", m, l)
		}
	}
}

// want returns the bound of a kind by the layers below.
func want(kind int, m api.Measure, n int, x, y []int) api.Ratio {
	abs := func(n int) int { return max(n, -n) }
	a, b, c, d := x[0], y[0], x[len(x)-1], y[len(y)-1]
	var v api.Ratio
	switch {
	case kind == api.BoundDistance:
		v, _ = measure.Distance(m, x, y)
	case kind == api.BoundEnds && m.Kind == api.KindEdit:
		cost := func(p, q int) int { return min(abs(p-q), abs(p-m.Gap), abs(q-m.Gap)) }
		v = num(cost(a, b) + cost(c, d))
	case kind == api.BoundEnds:
		v = num((a-b)*(a-b) + (c-d)*(c-d))
	case kind == api.BoundTotal:
		sum := m.Gap * (len(y) - len(x))
		for _, k := range x {
			sum += k
		}
		for _, k := range y {
			sum -= k
		}
		v = num(abs(sum))
	case kind == api.BoundPieces && m.Kind == api.KindEuclid:
		v, _ = pieces.Lower(x, y, n)
	case kind == api.BoundPieces && m.Kind == api.KindShifted:
		v, _ = pieces.Shifted(x, y, n)
	case kind == api.BoundPieces:
		v, _ = envelope.Pieces(x, y, m.Band, n)
	case kind == api.BoundEnvelope:
		k, _ := envelope.Keogh(x, y, m.Band)
		v = num(k)
	case kind == api.BoundImproved:
		k, _ := envelope.Improved(x, y, m.Band)
		v = num(k)
	case kind == api.BoundSketch:
		p, _ := sketch.Of(x, n)
		q, _ := sketch.Of(y, n)
		v, _ = sketch.Gap(p, q)
	}
	return v
}

// TestLower tests P22.2, and that bounds are at most the distance.
func TestLower(t *testing.T) {
	r := rand.New(rand.NewSource(34))
	for range 500 {
		for _, m := range measures(r) {
			x, y := pair(r, m)
			n := 1 + r.Intn(min(8, len(y)))
			d, _ := measure.Distance(m, x, y)
			for kind := -1; kind <= 9; kind++ {
				a, e := bound.Lower(kind, m, n, x, y)
				if kind != api.BoundDistance && !slices.Contains(kinds[m.Kind], kind) {
					if a != (api.Ratio{}) || e != api.ErrMeasure {
						t.Fatalf("the kind %d of %v is %v, %d", kind, m, a, e)
					}
					continue
				}
				if v := want(kind, m, n, x, y); a != v || e != api.OK || ratio.Less(d, a) {
					t.Fatalf("the kind %d of %v for %v and %v is %v, %d, want %v, at most %v", kind, m, x, y, a, e, v, d)
				}
			}
		}
	}
	if a, e := bound.Lower(api.BoundEnds, api.Measure{Kind: 5, Gap: 4}, 0, []int{5, 1}, []int{3, 1}); a != num(1) || e != api.OK {
		t.Errorf("the ends are %v, %d", a, e)
	}
}

// TestLowerErrors tests the errors of P22.2 in their order.
func TestLowerErrors(t *testing.T) {
	two, three := []int{1, 2}, []int{1, 2, 3}
	for i, v := range []struct {
		kind int
		m    api.Measure
		n    int
		x, y []int
		e    api.Errno
	}{
		{8, api.Measure{Kind: 6}, 0, nil, nil, api.ErrMeasure},
		{1, api.Measure{Kind: 1, Gap: 1}, 0, nil, nil, api.ErrMeasure},
		{7, euclid, 0, nil, nil, api.ErrMeasure},
		{6, euclid, 0, nil, nil, api.ErrMeasure},
		{math.MinInt, euclid, 0, nil, nil, api.ErrMeasure},
		{3, euclid, 0, two, nil, api.ErrLength},
		{1, euclid, 0, two, three, api.ErrLength},
		{8, euclid, 0, two, []int{1, 1001}, api.ErrSample},
		{1, api.Measure{Kind: 4}, 0, two, three, api.ErrLength},
		{3, euclid, 0, two, two, api.ErrRange},
		{3, euclid, 3, two, two, api.ErrRange},
		{3, euclid, 9, make([]int, 32), make([]int, 32), api.ErrRange},
		{3, api.Measure{Kind: 2}, 3, two, two, api.ErrRange},
		{6, api.Measure{Kind: 3}, 3, two, two, api.ErrRange},
		{6, api.Measure{Kind: 3}, math.MinInt, two, two, api.ErrRange},
		{3, api.Measure{Kind: 4, Band: 1}, 3, three, two, api.ErrRange},
		{3, api.Measure{Kind: 4, Band: 1}, 3, two, three, api.OK},
		{1, euclid, -5, two, two, api.OK},
		{8, euclid, -5, two, two, api.OK},
		{2, api.Measure{Kind: 5}, 99, two, two, api.OK},
		{5, api.Measure{Kind: 4}, 99, two, two, api.OK},
	} {
		if a, e := bound.Lower(v.kind, v.m, v.n, v.x, v.y); e != v.e || e != api.OK && a != (api.Ratio{}) {
			t.Errorf("%d: Lower is %v, %d", i, a, e)
		}
	}
}

// TestCascade tests P22.4 and P22.5: what a cascade claims, and that its claims hold.
func TestCascade(t *testing.T) {
	r := rand.New(rand.NewSource(35))
	for range 400 {
		for _, m := range measures(r) {
			x, y := pair(r, m)
			n := 1 + r.Intn(min(8, len(y)))
			d, _ := measure.Distance(m, x, y)
			limits := []api.Ratio{d, num(0)}
			for _, kind := range kinds[m.Kind] {
				limits = append(limits, want(kind, m, n, x, y))
			}
			for _, limit := range limits {
				c, a, ok := bound.Cascade(m, n, x, y, limit)
				within, found := measure.Within(m, x, y, limit)
				if ok != found || a != within || ok != (c == api.Claim{}) {
					t.Fatalf("Cascade of %v within %v is %v, %v, %v", m, limit, c, a, ok)
				}
				if ok {
					continue
				}
				first := api.Claim{Kind: api.BoundDistance, Value: d}
				for _, kind := range kinds[m.Kind] {
					if v := want(kind, m, n, x, y); ratio.Less(limit, v) {
						first = api.Claim{Kind: kind, Value: v}
						break
					}
				}
				if first.Kind == api.BoundPieces || first.Kind == api.BoundSketch {
					first.Pieces = n
				}
				if c != first || !bound.Holds(m, x, y, c) || !ratio.Less(limit, c.Value) {
					t.Fatalf("Cascade of %v within %v is %v, want %v", m, limit, c, first)
				}
			}
		}
	}
}

// TestCascadeErrors tests P22.4.
func TestCascadeErrors(t *testing.T) {
	x, y := []int{0, 0, 4, 4}, []int{1, 1, 0, 0}
	if c, a, ok := bound.Cascade(euclid, 2, x, y, num(20)); c != (api.Claim{Kind: api.BoundPieces, Pieces: 2, Value: num(34)}) || a != num(0) || ok {
		t.Errorf("Cascade is %v, %v, %v", c, a, ok)
	}
	if c, a, ok := bound.Cascade(euclid, 2, x, y, num(16)); c != (api.Claim{Kind: api.BoundEnds, Value: num(17)}) || a != num(0) || ok {
		t.Errorf("Cascade is %v, %v, %v", c, a, ok)
	}
	refuse := func(m api.Measure, n int, x, y []int, limit api.Ratio) {
		if c, a, ok := bound.Cascade(m, n, x, y, limit); c != (api.Claim{}) || a != num(0) || ok {
			t.Errorf("Cascade of %v in %d within %v is %v, %v, %v", m, n, limit, c, a, ok)
		}
	}
	for _, limit := range bad {
		refuse(euclid, 2, x, y, limit)
	}
	for _, m := range wrong {
		refuse(m, 2, x, y, num(1000))
	}
	for _, n := range []int{0, 5, -1, 9} {
		refuse(euclid, n, x, y, num(0))
		refuse(api.Measure{Kind: 3}, n, x, y, num(9))
		refuse(api.Measure{Kind: 4, Band: 1}, n, x, y, num(0))
	}
	refuse(euclid, 2, x, y[:3], num(1000))
	refuse(euclid, 2, x, []int{1, 1, 0, 1001}, num(1000))
	if _, a, ok := bound.Cascade(api.Measure{Kind: 5}, 99, x, x, num(0)); a != num(0) || !ok {
		t.Error("the number of pieces matters for the edit distance")
	}
}

// TestHolds tests P22.5.
func TestHolds(t *testing.T) {
	x, y := []int{0, 0, 4, 4}, []int{1, 1, 0, 0}
	for i, v := range []struct {
		m    api.Measure
		c    api.Claim
		want bool
	}{
		{euclid, api.Claim{Kind: api.BoundPieces, Pieces: 2, Value: num(34)}, true},
		{euclid, api.Claim{Kind: api.BoundPieces, Pieces: 2, Value: num(0)}, true},
		{euclid, api.Claim{Kind: api.BoundPieces, Pieces: 2, Value: num(35)}, false},
		{euclid, api.Claim{Kind: api.BoundPieces, Pieces: 0, Value: num(0)}, false},
		{euclid, api.Claim{Kind: api.BoundPieces, Pieces: 5, Value: num(0)}, false},
		{euclid, api.Claim{Kind: api.BoundEnds, Value: num(17)}, true},
		{euclid, api.Claim{Kind: api.BoundEnds, Value: num(18)}, false},
		{euclid, api.Claim{Kind: api.BoundEnds, Pieces: 2, Value: num(17)}, false},
		{euclid, api.Claim{Kind: api.BoundDistance, Value: num(34)}, true},
		{euclid, api.Claim{Kind: api.BoundDistance, Pieces: 1, Value: num(34)}, false},
		{euclid, api.Claim{Kind: api.BoundDistance, Value: api.Ratio{Num: 69, Den: 2}}, false},
		{euclid, api.Claim{Kind: api.BoundTotal, Value: num(0)}, false},
		{euclid, api.Claim{Kind: api.BoundRegion, Value: num(0)}, false},
		{euclid, api.Claim{}, false},
		{euclid, api.Claim{Kind: api.BoundEnds, Value: api.Ratio{Num: 2, Den: 2}}, false},
		{euclid, api.Claim{Kind: api.BoundEnds}, false},
		{api.Measure{Kind: 3}, api.Claim{Kind: api.BoundSketch, Pieces: 4, Value: num(1)}, true},
		{api.Measure{Kind: 3}, api.Claim{Kind: api.BoundSketch, Pieces: 5, Value: num(0)}, false},
		{api.Measure{Kind: 9}, api.Claim{Kind: api.BoundDistance, Value: num(0)}, false},
	} {
		if bound.Holds(v.m, x, y, v.c) != v.want {
			t.Errorf("%d: Holds is %v", i, !v.want)
		}
	}
	if bound.Holds(euclid, x, y[:2], api.Claim{Kind: api.BoundEnds, Value: num(0)}) {
		t.Error("a claim about windows that do not fit holds")
	}
}
