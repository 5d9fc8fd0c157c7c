package bound_test

import (
	"math/big"
	"math/rand"
	"slices"
	"testing"

	"shapesearch/api"
	"shapesearch/bound"
	"shapesearch/envelope"
	"shapesearch/measure"
	"shapesearch/pieces"
	"shapesearch/ratio"
	"shapesearch/sketch"
	"shapesearch/word"
)

// scheme returns a scheme for a measure.
func scheme(r *rand.Rand, m api.Measure) api.Scheme {
	length := 2 + r.Intn(31)
	cuts := random(r, r.Intn(16), []int{0, 300, 300, 100, 300, 300}[m.Kind])
	if r.Intn(4) == 0 {
		cuts = append(cuts[:len(cuts)/2], -1500, 1200, 2000)
	}
	slices.Sort(cuts)
	return api.Scheme{Measure: m, Length: length, Pieces: 1 + r.Intn(min(8, length)), Cuts: slices.Compact(cuts)}
}

// someWord returns a word to which a window belongs, with some bits, not the same number in all pieces.
func someWord(t *testing.T, r *rand.Rand, s api.Scheme, x []int) api.Word {
	full, e := word.Of(s, x)
	if e != api.OK {
		t.Fatalf("%v: %d", s, e)
	}
	w, _ := word.Root(s)
	for range r.Intn(4*s.Pieces + 1) {
		a, b, e := word.Split(s, w, r.Intn(s.Pieces))
		if e != api.OK {
			continue
		}
		if w = a; !word.Belongs(s, a, full) {
			w = b
		}
	}
	return w
}

// slow is the bound of a region by its definition.
func slow(s api.Scheme, q []int, w api.Word) *big.Rat {
	intervals, _ := word.Region(s, w)
	starts, _ := pieces.Starts(s.Length, s.Pieces)
	sums, _ := pieces.Sums(q, s.Pieces)
	centred, _ := pieces.Centred(q, s.Pieces)
	upper, lower, _ := envelope.Of(q, s.Measure.Band, s.Length)
	most, _ := pieces.Sums(upper, s.Pieces)
	least, _ := pieces.Sums(lower, s.Pieces)
	total, m := new(big.Rat), s.Length
	sum, low, high := 0, 0, 0
	for p, i := range intervals {
		if i.Low > i.High {
			return new(big.Rat)
		}
		l := starts[p+1] - starts[p]
		a, b := l*i.Low, l*(i.High+1)-1
		d, by := max(0, sums[p]-b, a-sums[p]), l
		switch s.Measure.Kind {
		case api.KindShifted:
			d, by = max(0, centred[p]-(m*l*(i.High+1)-1), m*l*i.Low-centred[p]), m*m*l
		case api.KindWarp:
			d = max(0, a-most[p], least[p]-b)
		}
		total.Add(total, big.NewRat(int64(d)*int64(d), int64(by)))
		sum, low, high = sum+sums[p], low+max(a, -1000*l), high+min(b, 1000*l)
	}
	switch s.Measure.Kind {
	case api.KindNormal:
		x, _ := sketch.Of(q, s.Pieces)
		a, _ := sketch.Region(x, intervals)
		return big.NewRat(int64(a.Num), int64(a.Den))
	case api.KindEdit:
		return big.NewRat(int64(max(0, sum-high, low-sum)), 1)
	}
	return total
}

// TestRegion tests P22.3, and that bounds of regions are at most distances and grow when words are split.
func TestRegion(t *testing.T) {
	r := rand.New(rand.NewSource(36))
	positive := map[int]int{}
	for range 800 {
		for _, m := range measures(r) {
			s := scheme(r, m)
			x, q := random(r, s.Length, 1+r.Intn(1000)), random(r, s.Length, 1+r.Intn(1000))
			if r.Intn(2) == 0 {
				slices.Sort(x)
				for i := range q {
					q[i] = q[i] / 4
				}
			}
			w := someWord(t, r, s, x)
			a, e := bound.Region(s, q, w)
			d, _ := measure.Distance(m, q, x)
			if v := slow(s, q, w); v.Cmp(big.NewRat(int64(a.Num), int64(max(a.Den, 1)))) != 0 || e != api.OK || ratio.Less(d, a) {
				t.Fatalf("the region of %v for %v in %v is %v, %d, want %v, at most %v", w, q, s, a, e, v, d)
			}
			if a.Num > 0 {
				positive[m.Kind]++
			}
			half, rest, e := word.Split(s, w, r.Intn(s.Pieces))
			if e == api.OK {
				for _, h := range []api.Word{half, rest} {
					l, _ := word.Region(s, h)
					b, _ := bound.Region(s, q, h)
					if ratio.Less(b, a) && !slices.Contains(l, api.Interval{Low: 1, High: 0}) {
						t.Fatalf("the bound of a half is %v, less than %v", b, a)
					}
				}
			}
			if !bound.HoldsRegion(s, q, w, api.Claim{Kind: api.BoundRegion, Value: a}) {
				t.Fatalf("the claim of %v does not hold", a)
			}
		}
	}
	for kind := 1; kind <= 5; kind++ {
		if positive[kind] < 50 {
			t.Errorf("the bounds of the kind %d are positive %d times only", kind, positive[kind])
		}
	}
}

// TestRegionCases tests P22.3 by cases that are written out, and its errors.
func TestRegionCases(t *testing.T) {
	s := func(kind int, cuts ...int) api.Scheme {
		return api.Scheme{Measure: api.Measure{Kind: kind}, Length: 4, Pieces: 2, Cuts: cuts}
	}
	w := func(a, b int) api.Word { return api.Word{Symbols: []int{a, b}, Bits: []int{4, 4}} }
	q := []int{1, 2, -5, -6}
	for i, v := range []struct {
		s    api.Scheme
		q    []int
		w    api.Word
		want api.Ratio
		e    api.Errno
	}{
		// The sums are 3 and -11: the first one passes the interval from 20 on by 17, the second one that from 0 to 19 by 11.
		{s(1, 0, 10), q, w(2, 1), num((17*17 + 11*11) / 2), api.OK},
		{s(1, 0, 10), q, w(3, 1), num(0), api.OK},
		{s(1, 0, 10), q, w(1, 0), num(0), api.OK},
		// The centred sums are 28 and -28, the intervals 80 and more, and 0 to 79.
		{s(2, 0, 10), q, w(2, 1), num((52*52 + 28*28) / 32), api.OK},
		// The sum is -8, the interval from 20 + 0 to 2000 + 19.
		{s(5, 0, 10), q, w(2, 1), num(28), api.OK},
		// A coordinate of 1500 is not to be had: the interval is from 3000 - 2000 to 2000 + 2000.
		{s(5, 1500), q, w(1, 0), num(1008), api.OK},
		// It is from 6000 to 4000.
		{s(5, 1500), q, w(1, 1), num(6008), api.OK},
		{s(1, 0, 0), q[:1], w(0, 0), api.Ratio{}, api.ErrWord},
		{s(1, 0), q[:1], w(16, 0), api.Ratio{}, api.ErrWord},
		{s(1, 0), []int{1, 2, 5000}, w(0, 0), api.Ratio{}, api.ErrLength},
		{s(1, 0), []int{1, 2, 3, 5000}, w(3, 0), api.Ratio{}, api.ErrSample},
	} {
		if a, e := bound.Region(v.s, v.q, v.w); a != v.want || e != v.e {
			t.Errorf("%d: Region is %v, %d", i, a, e)
		}
		if v.e != api.OK && bound.HoldsRegion(v.s, v.q, v.w, api.Claim{Kind: api.BoundRegion, Value: num(0)}) {
			t.Errorf("%d: a claim holds", i)
		}
	}
	for _, c := range []api.Claim{
		{Kind: api.BoundRegion, Value: num(206)}, {Kind: api.BoundRegion, Pieces: 2, Value: num(0)}, {Kind: api.BoundPieces, Value: num(0)}, {Kind: api.BoundPieces, Pieces: 2, Value: num(0)},
		{Kind: api.BoundRegion}, {Kind: api.BoundRegion, Value: api.Ratio{Num: 2, Den: 2}}, {},
	} {
		if bound.HoldsRegion(s(1, 0, 10), q, w(2, 1), c) {
			t.Errorf("the claim %v holds", c)
		}
	}
	if !bound.HoldsRegion(s(1, 0, 10), q, w(2, 1), api.Claim{Kind: api.BoundRegion, Value: num(205)}) {
		t.Error("a claim does not hold")
	}
}
