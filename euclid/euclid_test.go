package euclid_test

import (
	"math"
	"math/rand"
	"slices"
	"testing"

	"shapesearch/api"
	"shapesearch/euclid"
	"shapesearch/ratio"
)

func random(r *rand.Rand, n, spread int) []int {
	l := make([]int, n)
	for i := range l {
		l[i] = r.Intn(2*spread+1) - spread
	}
	return l
}

// wrong are pairs of windows with their errors.
var wrong = []struct {
	x, y []int
	e    api.Errno
}{
	{[]int{1}, []int{1, 2}, api.ErrLength},
	{[]int{1, 2}, nil, api.ErrLength},
	{[]int{1, 5000}, []int{1}, api.ErrLength},
	{make([]int, 33), make([]int, 33), api.ErrLength},
	{[]int{1, 1001}, []int{1, 2, 3}, api.ErrSample},
	{[]int{1, 2, 3}, []int{1, -1001}, api.ErrSample},
	{[]int{1, 2}, []int{1, math.MinInt}, api.ErrSample},
	{[]int{1, 2, 3}, []int{1, 2}, api.ErrLength},
}

// TestDistance tests P12.1.
func TestDistance(t *testing.T) {
	for i, x := range []struct {
		x, y []int
		want int
	}{
		{[]int{1, 2, 3}, []int{2, 4, 3}, 5},
		{[]int{1, 2}, []int{1, 2}, 0},
		{slices.Repeat([]int{1000}, 32), slices.Repeat([]int{-1000}, 32), 128000000},
	} {
		d, e := euclid.Distance(x.x, x.y)
		back, _ := euclid.Distance(x.y, x.x)
		if d != x.want || back != d || e != api.OK {
			t.Errorf("%d: the distance is %d, %d", i, d, e)
		}
	}
	for i, x := range wrong {
		if d, e := euclid.Distance(x.x, x.y); d != 0 || e != x.e {
			t.Errorf("%d: Distance is %d, %d", i, d, e)
		}
		if a, e := euclid.Shifted(x.x, x.y); a != (api.Ratio{}) || e != x.e {
			t.Errorf("%d: Shifted is %v, %d", i, a, e)
		}
		if d, ok := euclid.Within(x.x, x.y, math.MaxInt); d != 0 || ok {
			t.Errorf("%d: Within is %d, %v", i, d, ok)
		}
	}
}

// TestWithin tests P12.2.
func TestWithin(t *testing.T) {
	x, y := []int{1, 2, 3}, []int{2, 4, 3}
	for limit, want := range map[int]bool{5: true, 4: false, 0: false, -1: false, math.MinInt: false, math.MaxInt: true} {
		d, ok := euclid.Within(x, y, limit)
		if ok != want || d != map[bool]int{true: 5}[want] {
			t.Errorf("Within %d is %d, %v", limit, d, ok)
		}
	}
	if d, ok := euclid.Within(x, x, 0); d != 0 || !ok {
		t.Errorf("Within 0 is %d, %v", d, ok)
	}
	if d, ok := euclid.Within(x, x, -1); d != 0 || ok {
		t.Errorf("Within -1 is %d, %v", d, ok)
	}
}

// TestShifted tests P12.3.
func TestShifted(t *testing.T) {
	for i, x := range []struct {
		x, y []int
		want api.Ratio
	}{
		{[]int{1, 2, 3}, []int{2, 4, 3}, api.Ratio{Num: 2, Den: 1}},
		{[]int{1, 2, 3}, []int{2, 4, 4}, api.Ratio{Num: 2, Den: 3}},
		{[]int{1, 2}, []int{11, 12}, api.Ratio{Den: 1}},
	} {
		if a, e := euclid.Shifted(x.x, x.y); a != x.want || e != api.OK {
			t.Errorf("%d: Shifted is %v, %d", i, a, e)
		}
	}
	r := rand.New(rand.NewSource(15))
	for range 500 {
		m := 2 + r.Intn(31)
		x, y := random(r, m, 400), random(r, m, 400)
		a, _ := euclid.Shifted(x, y)
		for c := -400; c <= 400; c += 100 {
			z := slices.Clone(y)
			for i := range z {
				z[i] += c
			}
			d, _ := euclid.Distance(x, z)
			if b, _ := euclid.Shifted(x, z); b != a || ratio.Less(api.Ratio{Num: d, Den: 1}, a) {
				t.Fatalf("Shifted of %v and %v is %v, and %v, %d after the shift %d", x, y, a, b, d, c)
			}
		}
	}
}

// TestProfile tests P12.4.
func TestProfile(t *testing.T) {
	full := make([]int, api.MaxSeries)
	for i, x := range []struct {
		q, l, want []int
		e          api.Errno
	}{
		{[]int{1, 2}, []int{1, 2, 4, 0}, []int{0, 5, 13}, api.OK},
		{[]int{1, 2}, []int{1}, nil, api.OK},
		{[]int{1, 2}, nil, nil, api.OK},
		{[]int{0, 0}, full, full[1:], api.OK},
		{[]int{1001}, append(full[:2000:2000], 1001), nil, api.ErrLength},
		{make([]int, 33), nil, nil, api.ErrLength},
		{[]int{1, 1001}, append(full[:2000:2000], 1001), nil, api.ErrSample},
		{[]int{1, 2}, append(full[:2000:2000], 1001), nil, api.ErrLimit},
		{[]int{1, 2}, append(full[:1999:1999], 1001), nil, api.ErrSample},
	} {
		if l, e := euclid.Profile(x.q, x.l); !slices.Equal(l, x.want) || e != x.e {
			t.Errorf("%d: Profile is %v, %d", i, l, e)
		}
	}
}
