package word_test

import (
	"math"
	"math/rand"
	"slices"
	"testing"

	"shapesearch/api"
	"shapesearch/word"
)

func random(r *rand.Rand, n, spread int) []int {
	l := make([]int, n)
	for i := range l {
		l[i] = r.Intn(2*spread+1) - spread
	}
	return l
}

func w(l ...int) api.Word {
	var x api.Word
	for i := 0; i < len(l); i += 2 {
		x.Symbols, x.Bits = append(x.Symbols, l[i]), append(x.Bits, l[i+1])
	}
	return x
}

func equal(a, b api.Word) bool {
	return slices.Equal(a.Symbols, b.Symbols) && slices.Equal(a.Bits, b.Bits)
}

var (
	example = api.Scheme{Measure: api.Measure{Kind: api.KindEuclid}, Length: 4, Pieces: 2, Cuts: []int{0, 10}}
	many    = []int{-2000, -1500, -1000, -500, -100, -10, -1, 0, 1, 10, 100, 500, 1000, 1500, 2000}
)

// schemes returns a scheme of each kind.
func schemes(r *rand.Rand) []api.Scheme {
	var l []api.Scheme
	for kind := 1; kind <= 5; kind++ {
		length := 2 + r.Intn(31)
		spread := []int{0, 1000, 1000, 100, 1000, 1000}[kind]
		cuts := random(r, r.Intn(16), spread)
		slices.Sort(cuts)
		s := api.Scheme{Measure: api.Measure{Kind: kind}, Length: length, Pieces: 1 + r.Intn(min(length, 8)), Cuts: slices.Compact(cuts)}
		switch kind {
		case api.KindWarp:
			s.Measure.Band = r.Intn(33)
		case api.KindEdit:
			s.Measure.Gap = r.Intn(2001) - 1000
		}
		l = append(l, s)
	}
	return l
}

// badSchemes returns schemes that are not valid.
func badSchemes() []api.Scheme {
	var l []api.Scheme
	change := func(f func(s *api.Scheme)) {
		s := example
		f(&s)
		l = append(l, s)
	}
	change(func(s *api.Scheme) { *s = api.Scheme{} })
	change(func(s *api.Scheme) { s.Measure.Kind = 6 })
	change(func(s *api.Scheme) { s.Measure.Band = 1 })
	change(func(s *api.Scheme) { s.Length, s.Pieces = 1, 1 })
	change(func(s *api.Scheme) { s.Length = 33 })
	change(func(s *api.Scheme) { s.Length = math.MinInt })
	change(func(s *api.Scheme) { s.Pieces = 0 })
	change(func(s *api.Scheme) { s.Pieces = 5 })
	change(func(s *api.Scheme) { s.Length, s.Pieces = 32, 9 })
	change(func(s *api.Scheme) { s.Cuts = []int{0, 0} })
	change(func(s *api.Scheme) { s.Cuts = []int{1, 0} })
	change(func(s *api.Scheme) { s.Cuts = []int{2001} })
	change(func(s *api.Scheme) { s.Cuts = []int{-2001} })
	change(func(s *api.Scheme) { s.Cuts = append(slices.Clone(many[:8]), 1, 2, 3, 4, 5, 6, 7, 8) })
	return l
}

// TestCheck tests P19.1 and what the other promises say of schemes that are not valid.
func TestCheck(t *testing.T) {
	for _, s := range append(schemes(rand.New(rand.NewSource(26))), example, api.Scheme{Measure: example.Measure, Length: 2, Pieces: 2, Cuts: many}, api.Scheme{Measure: example.Measure, Length: 32, Pieces: 8}) {
		if e := word.Check(s); e != api.OK {
			t.Errorf("%v: %d", s, e)
		}
	}
	full := w(0, 4, 0, 4)
	for _, s := range badSchemes() {
		if e := word.Check(s); e != api.ErrWord {
			t.Errorf("%v: %d", s, e)
		}
		if l, e := word.Coordinates(s, []int{5000}); len(l) > 0 || e != api.ErrWord {
			t.Errorf("%v: Coordinates is %v, %d", s, l, e)
		}
		if x, e := word.Of(s, []int{1, 2, 3, 4}); !equal(x, api.Word{}) || e != api.ErrWord {
			t.Errorf("%v: Of is %v, %d", s, x, e)
		}
		if x, e := word.Root(s); !equal(x, api.Word{}) || e != api.ErrWord {
			t.Errorf("%v: Root is %v, %d", s, x, e)
		}
		if word.Valid(s, full) || word.Belongs(s, full, full) || word.Cmp(s, full, w(1, 4, 0, 4)) != 0 {
			t.Errorf("%v: there is a valid word", s)
		}
		if a, b, e := word.Split(s, w(0, 0, 0, 0), 9); !equal(a, api.Word{}) || !equal(b, api.Word{}) || e != api.ErrWord {
			t.Errorf("%v: Split is %v, %v, %d", s, a, b, e)
		}
		if l, e := word.Region(s, full); len(l) > 0 || e != api.ErrWord {
			t.Errorf("%v: Region is %v, %d", s, l, e)
		}
	}
}

// TestCoordinates tests P19.1.
func TestCoordinates(t *testing.T) {
	kind := func(kind, length, n int) api.Scheme {
		return api.Scheme{Measure: api.Measure{Kind: kind}, Length: length, Pieces: n, Cuts: []int{0, 10}}
	}
	for i, v := range []struct {
		s    api.Scheme
		x    []int
		want []int
		word api.Word
		e    api.Errno
	}{
		{example, []int{1, 2, -5, -6}, []int{1, -6}, w(1, 4, 0, 4), api.OK},
		{kind(1, 4, 2), []int{10, 10, 20, -1}, []int{10, 9}, w(2, 4, 1, 4), api.OK},
		{kind(4, 4, 2), []int{1, 2, -5, -6}, []int{1, -6}, w(1, 4, 0, 4), api.OK},
		{kind(5, 4, 2), []int{1, 2, -5, -6}, []int{1, -6}, w(1, 4, 0, 4), api.OK},
		{kind(2, 4, 2), []int{1, 2, -5, -6}, []int{3, -4}, w(1, 4, 0, 4), api.OK},
		{kind(2, 3, 2), []int{0, 0, 1}, []int{-1, 0}, w(0, 4, 1, 4), api.OK},
		// T is -8 and 8, m V is 80: 512 / 8.944.. is 57.24..
		{kind(3, 4, 2), []int{1, 2, 3, 4}, []int{-58, 57}, w(0, 4, 2, 4), api.OK},
		{kind(3, 4, 2), []int{7, 7, 7, 7}, []int{0, 0}, w(1, 4, 1, 4), api.OK},
		{kind(3, 2, 2), []int{-1000, 1000}, []int{-46, 45}, w(0, 4, 2, 4), api.OK},
		{example, []int{1, 2, 3}, nil, api.Word{}, api.ErrLength},
		{example, []int{1, 2, 3, 4, 5000}, nil, api.Word{}, api.ErrLength},
		{example, []int{1, 2, 3, 1001}, nil, api.Word{}, api.ErrSample},
	} {
		if l, e := word.Coordinates(v.s, v.x); !slices.Equal(l, v.want) || e != v.e {
			t.Errorf("%d: Coordinates is %v, %d", i, l, e)
		}
		if x, e := word.Of(v.s, v.x); !equal(x, v.word) || e != v.e {
			t.Errorf("%d: Of is %v, %d", i, x, e)
		}
	}
	s := api.Scheme{Measure: example.Measure, Length: 2, Pieces: 1, Cuts: []int{-1000, 0, 1000}}
	for n, want := range map[int]int{-1000: 1, -1: 1, 0: 2, 999: 2, 1000: 3} {
		if x, _ := word.Of(s, []int{n, n}); x.Symbols[0] != want {
			t.Errorf("the symbol of %d is %d", n, x.Symbols[0])
		}
	}
}

// TestValid tests P19.2.
func TestValid(t *testing.T) {
	for _, v := range []struct {
		w           api.Word
		valid, full bool
	}{
		{w(0, 0, 0, 0), true, false}, {w(1, 1, 3, 2), true, false}, {w(15, 4, 15, 4), true, true}, {w(0, 4, 7, 3), true, false},
		{w(1, 0, 0, 0), false, false}, {w(-1, 1, 0, 0), false, false}, {w(16, 4, 0, 4), false, false}, {w(0, 5, 0, 4), false, false}, {w(0, -1, 0, 4), false, false},
		{w(0, 4), false, false}, {w(0, 4, 0, 4, 0, 4), false, false}, {api.Word{}, false, false},
		{api.Word{Symbols: []int{0, 0}, Bits: []int{4}}, false, false}, {api.Word{Symbols: []int{0}, Bits: []int{4, 4}}, false, false},
		{w(math.MaxInt, math.MaxInt, 0, 0), false, false}, {w(math.MinInt, math.MinInt, 0, 0), false, false},
	} {
		if word.Valid(example, v.w) != v.valid {
			t.Errorf("Valid(%v) is wrong", v.w)
		}
		if word.Belongs(example, w(0, 0, 0, 0), v.w) != v.full || word.Belongs(example, v.w, w(15, 4, 15, 4)) != (v.full || equal(v.w, w(0, 0, 0, 0)) || equal(v.w, w(1, 1, 3, 2))) {
			t.Errorf("Belongs of %v is wrong", v.w)
		}
	}
	if x, e := word.Root(example); !equal(x, w(0, 0, 0, 0)) || e != api.OK {
		t.Errorf("Root is %v, %d", x, e)
	}
	if !word.Belongs(example, w(2, 3, 0, 1), w(5, 4, 7, 4)) || word.Belongs(example, w(2, 3, 0, 1), w(6, 4, 7, 4)) || word.Belongs(example, w(2, 3, 0, 1), w(5, 4, 8, 4)) {
		t.Error("Belongs is wrong")
	}
}

// TestSplit tests P19.3.
func TestSplit(t *testing.T) {
	for i, v := range []struct {
		w, a, b api.Word
		piece   int
		e       api.Errno
	}{
		{w(0, 0, 0, 0), w(0, 0, 0, 1), w(0, 0, 1, 1), 1, api.OK},
		{w(5, 3, 9, 4), w(10, 4, 9, 4), w(11, 4, 9, 4), 0, api.OK},
		{w(5, 3, 9, 4), api.Word{}, api.Word{}, 1, api.ErrLimit},
		{w(5, 3, 9, 4), api.Word{}, api.Word{}, 2, api.ErrRange},
		{w(5, 3, 9, 4), api.Word{}, api.Word{}, -1, api.ErrRange},
		{w(8, 3, 9, 4), api.Word{}, api.Word{}, -1, api.ErrWord},
	} {
		before := api.Word{Symbols: slices.Clone(v.w.Symbols), Bits: slices.Clone(v.w.Bits)}
		a, b, e := word.Split(example, v.w, v.piece)
		if !equal(a, v.a) || !equal(b, v.b) || e != v.e || !equal(v.w, before) {
			t.Errorf("%d: Split is %v, %v, %d", i, a, b, e)
		}
	}
}

// TestRegion tests P19.4.
func TestRegion(t *testing.T) {
	const least, most = api.Least, api.Most
	for i, v := range []struct {
		w    api.Word
		want []api.Interval
		e    api.Errno
	}{
		{w(0, 3, 0, 0), []api.Interval{{Low: least, High: 9}, {Low: least, High: most}}, api.OK},
		{w(2, 4, 3, 4), []api.Interval{{Low: 10, High: most}, {Low: 1, High: 0}}, api.OK},
		{w(1, 4, 0, 4), []api.Interval{{Low: 0, High: 9}, {Low: least, High: -1}}, api.OK},
		{w(1, 3, 0, 1), []api.Interval{{Low: 10, High: most}, {Low: least, High: most}}, api.OK},
		{w(1, 1, 1, 2), []api.Interval{{Low: 1, High: 0}, {Low: 1, High: 0}}, api.OK},
		{w(2, 1, 0, 0), nil, api.ErrWord},
	} {
		if l, e := word.Region(example, v.w); !slices.Equal(l, v.want) || e != v.e {
			t.Errorf("%d: Region is %v, %d", i, l, e)
		}
	}
	full := api.Scheme{Measure: example.Measure, Length: 2, Pieces: 1, Cuts: many}
	for symbol := range 16 {
		l, _ := word.Region(full, w(symbol, 4))
		want := api.Interval{Low: least, High: most}
		if symbol > 0 {
			want.Low = many[symbol-1]
		}
		if symbol < 15 {
			want.High = many[symbol] - 1
		}
		if l[0] != want {
			t.Errorf("the region of %d is %v", symbol, l)
		}
	}
}

// TestRandom tests that words, regions and splits of all kinds of schemes agree.
func TestRandom(t *testing.T) {
	r := rand.New(rand.NewSource(27))
	for range 200 {
		for _, s := range schemes(r) {
			x := random(r, s.Length, 1+r.Intn(1000))
			full, e := word.Of(s, x)
			coordinates, _ := word.Coordinates(s, x)
			if e != api.OK {
				t.Fatalf("%v: %d", s, e)
			}
			v, _ := word.Root(s)
			for {
				l, _ := word.Region(s, v)
				inside := true
				for p, c := range coordinates {
					inside = inside && c >= l[p].Low && c <= l[p].High
				}
				if !word.Belongs(s, v, full) || !inside {
					t.Fatalf("%v: %v with %v does not belong to %v", s, full, coordinates, v)
				}
				piece := slices.IndexFunc(v.Bits, func(b int) bool { return b < 4 })
				if piece < 0 {
					break
				}
				if p := r.Intn(s.Pieces); v.Bits[p] < 4 {
					piece = p
				}
				a, b, _ := word.Split(s, v, piece)
				if word.Belongs(s, a, full) == word.Belongs(s, b, full) {
					t.Fatalf("%v: %v belongs to both or none of %v and %v", s, full, a, b)
				}
				v, a = b, v
				if !word.Belongs(s, v, full) {
					v, _, _ = word.Split(s, a, piece)
				}
			}
		}
	}
}

// TestCmp tests P19.5.
func TestCmp(t *testing.T) {
	for i, v := range []struct {
		a, b api.Word
		want int
	}{
		{w(8, 4, 0, 4), w(7, 4, 15, 4), 1},
		{w(8, 4, 0, 4), w(7, 4, 7, 4), 1},
		{w(1, 4, 2, 4), w(2, 4, 1, 4), -1},
		{w(1, 4, 2, 4), w(1, 4, 2, 4), 0},
		{w(1, 4, 2, 4), w(1, 4, 3, 4), -1},
		{w(2, 4, 2, 4), w(1, 4, 3, 4), 1},
		{w(1, 3, 2, 4), w(1, 4, 3, 4), 0},
		{w(16, 4, 2, 4), w(1, 4, 3, 4), 0},
		{w(1, 4), w(1, 4, 3, 4), 0},
	} {
		if n := word.Cmp(example, v.a, v.b); n != v.want {
			t.Errorf("%d: Cmp is %d", i, n)
		}
		if n := word.Cmp(example, v.b, v.a); n != -v.want {
			t.Errorf("%d: Cmp the other way round is %d", i, n)
		}
	}
	// slow compares bit by bit, as the promise says.
	slow := func(a, b api.Word) int {
		for bit := 3; bit >= 0; bit-- {
			for p := range a.Symbols {
				if d := a.Symbols[p]>>bit&1 - b.Symbols[p]>>bit&1; d != 0 {
					return d
				}
			}
		}
		return 0
	}
	r := rand.New(rand.NewSource(28))
	for range 2000 {
		n := 1 + r.Intn(8)
		s := api.Scheme{Measure: example.Measure, Length: 32, Pieces: n}
		a, b := w(), w()
		for range n {
			a.Symbols, a.Bits = append(a.Symbols, r.Intn(16)), append(a.Bits, 4)
			b.Symbols, b.Bits = append(b.Symbols, r.Intn(16)), append(b.Bits, 4)
		}
		if k := word.Cmp(s, a, b); k != slow(a, b) {
			t.Fatalf("Cmp(%v, %v) is %d", a, b, k)
		}
	}
}
