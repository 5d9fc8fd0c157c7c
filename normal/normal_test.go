package normal_test

import (
	"math"
	"math/rand"
	"slices"
	"testing"

	"shapesearch/api"
	"shapesearch/euclid"
	"shapesearch/normal"
	"shapesearch/ratio"
)

func random(r *rand.Rand, n, spread int) []int {
	l := make([]int, n)
	for i := range l {
		l[i] = r.Intn(2*spread+1) - spread
	}
	return l
}

// moved returns a window multiplied by a number, and shifted.
func moved(l []int, by, shift int) []int {
	m := slices.Clone(l)
	for i := range m {
		m[i] = m[i]*by + shift
	}
	return m
}

func high() []int { return append(slices.Repeat([]int{1000}, 16), slices.Repeat([]int{-1000}, 16)...) }

// TestProduct tests P13.1.
func TestProduct(t *testing.T) {
	for i, x := range []struct {
		x, y []int
		want int
	}{
		{[]int{1, 2, 3}, []int{1, 3, 2}, 3},
		{[]int{1, 2, 3}, []int{1, 2, 3}, 6},
		{[]int{1, 2, 3}, []int{3, 2, 1}, -6},
		{[]int{5, 5}, []int{1, 2}, 0},
		{high(), moved(high(), -1, 0), -1024000000},
	} {
		if c, e := normal.Product(x.x, x.y); c != x.want || e != api.OK {
			t.Errorf("%d: the product is %d, %d", i, c, e)
		}
	}
}

// TestGap tests P13.1.
func TestGap(t *testing.T) {
	r := func(num, den int) api.Ratio { return api.Ratio{Num: num, Den: den} }
	for i, x := range []struct {
		x, y []int
		want api.Ratio
	}{
		{[]int{1, 2, 3}, []int{10, 30, 50}, r(0, 1)},
		{[]int{1, 2, 3}, []int{3, 2, 1}, r(2, 1)},
		{[]int{1, 2, 3}, []int{1, 3, 2}, r(3, 4)},
		{[]int{3, 2, 1}, []int{1, 3, 2}, r(5, 4)},
		{[]int{1, 2, 1}, []int{1, 2, 3}, r(1, 1)},
		{[]int{5, 5}, []int{1, 2}, r(1, 1)},
		{[]int{1, 2}, []int{5, 5}, r(1, 1)},
		{[]int{5, 5}, []int{7, 7}, r(0, 1)},
		{high(), high(), r(0, 1)},
		{high(), moved(high(), -1, 0), r(2, 1)},
	} {
		if a, e := normal.Gap(x.x, x.y); a != x.want || e != api.OK {
			t.Errorf("%d: the gap is %v, %d", i, a, e)
		}
	}
	random1 := rand.New(rand.NewSource(16))
	for range 1000 {
		m := 2 + random1.Intn(31)
		x, y := random(random1, m, 1+random1.Intn(300)), random(random1, m, 300)
		a, e := normal.Gap(x, y)
		b, _ := normal.Gap(moved(y, 3, -70), moved(x, 2, 55))
		if a != b || e != api.OK || !ratio.Valid(a) || ratio.Less(r(2, 1), a) {
			t.Fatalf("the gap of %v and %v is %v, and %v when they are moved", x, y, a, b)
		}
		if c, _ := normal.Gap(x, x); c != r(0, 1) {
			t.Fatalf("the gap of %v and itself is %v", x, c)
		}
	}
}

// TestErrors tests the errors of P13.1 and P13.2.
func TestErrors(t *testing.T) {
	for i, x := range []struct{ x, y []int }{
		{[]int{1, 2}, []int{1, 2}},
		{[]int{1}, []int{1, 5000}},
		{[]int{1, 2}, make([]int, 33)},
		{[]int{1, 2}, []int{1, 2, 1001}},
		{[]int{1, math.MinInt}, []int{1, 2}},
		{[]int{1, 2}, []int{1, 2, 3}},
	} {
		_, want := euclid.Distance(x.x, x.y)
		if c, e := normal.Product(x.x, x.y); e != want || e != api.OK && c != 0 {
			t.Errorf("%d: Product is %d, %d", i, c, e)
		}
		if a, e := normal.Gap(x.x, x.y); e != want || e != api.OK && a != (api.Ratio{}) {
			t.Errorf("%d: Gap is %v, %d", i, a, e)
		}
	}
	for i, x := range []struct {
		x []int
		e api.Errno
	}{
		{[]int{1001}, api.ErrLength}, {make([]int, 33), api.ErrLength}, {[]int{0, 1001}, api.ErrSample}, {[]int{0, math.MinInt}, api.ErrSample},
	} {
		if l, e := normal.Centred(x.x); len(l) > 0 || e != x.e {
			t.Errorf("%d: Centred is %v, %d", i, l, e)
		}
	}
}

// TestCentred tests P13.2.
func TestCentred(t *testing.T) {
	if l, e := normal.Centred([]int{1, 2, 6}); !slices.Equal(l, []int{-6, -3, 9}) || e != api.OK {
		t.Errorf("Centred is %v, %d", l, e)
	}
	r := rand.New(rand.NewSource(17))
	for range 200 {
		m := 2 + r.Intn(31)
		x, y := random(r, m, 1000), random(r, m, 1000)
		a, _ := normal.Centred(x)
		b, _ := normal.Centred(y)
		sum, products := 0, 0
		for i := range a {
			sum += a[i]
			products += a[i] * b[i]
		}
		if c, _ := normal.Product(x, y); sum != 0 || products != m*c {
			t.Fatalf("Centred of %v is %v", x, a)
		}
	}
}

// TestProfile tests P13.3.
func TestProfile(t *testing.T) {
	r := rand.New(rand.NewSource(18))
	for range 200 {
		q, l := random(r, 2+r.Intn(9), 5), random(r, r.Intn(50), 5)
		gaps, e := normal.Profile(q, l)
		if e != api.OK || len(gaps) != max(0, len(l)-len(q)+1) {
			t.Fatalf("the profile has %d gaps, %d", len(gaps), e)
		}
		for i, a := range gaps {
			if want, _ := normal.Gap(q, l[i:i+len(q)]); a != want {
				t.Fatalf("the gap at %d is %v, want %v", i, a, want)
			}
		}
	}
	full := make([]int, api.MaxSeries)
	for i, x := range []struct{ q, l []int }{
		{[]int{1, 2}, full},
		{[]int{1}, full},
		{[]int{1, 1001}, append(full[:2000:2000], 0)},
		{[]int{1, 2}, append(full[:2000:2000], 1001)},
		{[]int{1, 2}, append(full[:1999:1999], 1001)},
	} {
		_, want := euclid.Profile(x.q, x.l)
		if gaps, e := normal.Profile(x.q, x.l); e != want || e != api.OK && len(gaps) > 0 {
			t.Errorf("%d: Profile has %d gaps, %d", i, len(gaps), e)
		}
	}
}
