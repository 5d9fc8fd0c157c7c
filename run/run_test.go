package run_test

import (
	"math"
	"math/rand"
	"reflect"
	"slices"
	"testing"

	"shapesearch/api"
	"shapesearch/run"
	"shapesearch/store"
	"shapesearch/word"
)

var (
	scheme = api.Scheme{Measure: api.Measure{Kind: api.KindEuclid}, Length: 4, Pieces: 2, Cuts: []int{0, 10}}
	bad    = api.Scheme{Measure: api.Measure{Kind: api.KindEuclid}, Length: 4, Pieces: 5}
)

func entry(a, b, series, start int) api.Entry {
	return api.Entry{Word: api.Word{Symbols: []int{a, b}, Bits: []int{4, 4}}, Place: api.Place{Series: series, Start: start}}
}

func equal(a, b []api.Entry) bool {
	return slices.EqualFunc(a, b, func(a, b api.Entry) bool { return reflect.DeepEqual(a, b) })
}

// ascending are valid entries in order.
func ascending() []api.Entry {
	return []api.Entry{entry(0, 0, 0, 1), entry(0, 0, 0, 2), entry(0, 0, 1, 0), entry(0, 1, 0, 0), entry(1, 0, 0, 0), entry(7, 7, 9, 9), entry(0, 8, 0, 0), entry(8, 0, 2000, 2000), entry(15, 15, 0, 0)}
}

// random returns different entries in a random order.
func random(r *rand.Rand, n int) []api.Entry {
	seen := map[[4]int]bool{}
	var l []api.Entry
	for len(l) < n {
		k := [4]int{r.Intn(16), r.Intn(16), r.Intn(3), r.Intn(50)}
		if !seen[k] {
			seen[k] = true
			l = append(l, entry(k[0], k[1], k[2], k[3]))
		}
	}
	return l
}

// TestOf tests P26.1.
func TestOf(t *testing.T) {
	st := api.Store{Series: [][]int{{1, 2, -5, -6, 3}, nil, {api.Missing, 9, 9, 9, 30}}}
	want := []api.Entry{entry(1, 0, 0, 0), entry(0, 0, 0, 1), entry(1, 2, 2, 1)}
	if l, e := run.Of(scheme, st); !equal(l, want) || e != api.OK {
		t.Errorf("Of is %v, %d", l, e)
	}
	r := rand.New(rand.NewSource(41))
	l := make([]int, 300)
	for i := range l {
		l[i] = r.Intn(41) - 20
	}
	st = api.Store{Series: [][]int{l[:100], l[100:]}}
	entries, _ := run.Of(scheme, st)
	places, _ := store.Places(st, 4)
	for i, p := range places {
		x, _ := store.Window(st, p, 4)
		if w, _ := word.Of(scheme, x); !reflect.DeepEqual(entries[i], api.Entry{Word: w, Place: p}) {
			t.Fatalf("the entry %d is %v", i, entries[i])
		}
	}
	for i, v := range []struct {
		s  api.Scheme
		st api.Store
		e  api.Errno
	}{
		{bad, api.Store{Series: [][]int{{1001}}}, api.ErrWord},
		{scheme, api.Store{Series: [][]int{{1001}}}, api.ErrSample},
		{scheme, api.Store{Series: make([][]int, 17)}, api.ErrStore},
		{scheme, api.Store{}, api.OK},
	} {
		if l, e := run.Of(v.s, v.st); len(l) > 0 || e != v.e {
			t.Errorf("%d: Of is %v, %d", i, l, e)
		}
	}
}

// TestOrder tests what P26.1 says of Valid, Less and Sorted.
func TestOrder(t *testing.T) {
	l := ascending()
	for i, a := range l {
		if !run.Valid(scheme, a) || run.Valid(bad, a) {
			t.Errorf("Valid(%v) is wrong", a)
		}
		for j, b := range l {
			if run.Less(scheme, a, b) != (i < j) {
				t.Errorf("Less(%v, %v) is wrong", a, b)
			}
		}
	}
	for i, e := range []api.Entry{
		{}, entry(16, 0, 0, 0), entry(0, 0, -1, 0), entry(0, 0, 2001, 0), entry(0, 0, 0, -1), entry(0, 0, 0, 2001), entry(0, 0, math.MinInt, math.MaxInt),
		{Word: api.Word{Symbols: []int{0, 0}, Bits: []int{4, 3}}}, {Word: api.Word{Symbols: []int{0}, Bits: []int{4}}},
	} {
		if run.Valid(scheme, e) || run.Sorted(scheme, []api.Entry{e}) {
			t.Errorf("%d: %v is valid", i, e)
		}
	}
	if !run.Sorted(scheme, l) || !run.Sorted(scheme, nil) || run.Sorted(scheme, append(l[:1:1], l[0])) || run.Sorted(scheme, []api.Entry{l[1], l[0]}) || run.Sorted(bad, l[:1]) {
		t.Error("Sorted is wrong")
	}
}

// TestMerge tests P26.2.
func TestMerge(t *testing.T) {
	r := rand.New(rand.NewSource(42))
	for range 200 {
		all := random(r, r.Intn(100))
		sorted, _, _ := run.Sort(scheme, all, 64, 8)
		lists := make([][]api.Entry, 1+r.Intn(10))
		for _, e := range sorted {
			i := r.Intn(len(lists))
			lists[i] = append(lists[i], e)
		}
		m, e := run.Merge(scheme, lists)
		if !equal(m, sorted) || e != api.OK {
			t.Fatalf("Merge is %v, %d", m, e)
		}
		if len(m) > 0 {
			m[0].Word.Symbols[0] = 99
			if sorted[0].Word.Symbols[0] == 99 {
				t.Fatal("Merge shares memory with its argument")
			}
			last := len(lists) - 1
			lists = append(lists, sorted[:1])
			if m, e := run.Merge(scheme, lists[:last+2]); len(m) > 0 || e != api.ErrTwice {
				t.Fatalf("with an entry twice: %v, %d", m, e)
			}
		}
	}
	l := ascending()
	full, _, _ := run.Sort(scheme, random(r, api.MaxEntries), 64, 8)
	for i, v := range []struct {
		s     api.Scheme
		lists [][]api.Entry
		e     api.Errno
	}{
		{scheme, nil, api.OK},
		{scheme, make([][]api.Entry, 64), api.OK},
		{bad, make([][]api.Entry, 65), api.ErrWord},
		{scheme, make([][]api.Entry, 65), api.ErrLimit},
		{scheme, [][]api.Entry{full, {l[1], l[0]}}, api.ErrLimit},
		{scheme, [][]api.Entry{l, l, {l[1], l[0]}}, api.ErrOrder},
		{scheme, [][]api.Entry{l, {{}}}, api.ErrOrder},
		{scheme, [][]api.Entry{l, l[3:4]}, api.ErrTwice},
	} {
		if m, e := run.Merge(v.s, v.lists); len(m) > 0 || e != v.e {
			t.Errorf("%d: Merge is %v, %d", i, m, e)
		}
	}
	if m, e := run.Merge(scheme, [][]api.Entry{full[1000:], full[:1000]}); !equal(m, full) || e != api.OK {
		t.Errorf("Merge of %d entries is %d", len(full), e)
	}
}

// TestSort tests P26.3.
func TestSort(t *testing.T) {
	r := rand.New(rand.NewSource(43))
	for range 100 {
		l := random(r, r.Intn(150))
		want := slices.Clone(l)
		slices.SortFunc(want, func(a, b api.Entry) int {
			if run.Less(scheme, a, b) {
				return -1
			}
			return 1
		})
		memory, fan := 1+r.Intn(64), 2+r.Intn(7)
		if r.Intn(3) == 0 {
			memory = 1 + r.Intn(3)
		}
		work := api.Work{Runs: (len(l) + memory - 1) / memory}
		for n := work.Runs; n > 1; n = (n + fan - 1) / fan {
			work.Passes++
		}
		work.Moved = len(l) * (1 + work.Passes)
		before := slices.Clone(l)
		m, w, e := run.Sort(scheme, l, memory, fan)
		if !equal(m, want) || w != work || e != api.OK || !equal(l, before) {
			t.Fatalf("Sort with %d and %d is %v, %d, want %v", memory, fan, w, e, work)
		}
	}
	if _, w, e := run.Sort(scheme, random(r, 10), 3, 2); w != (api.Work{Runs: 4, Passes: 2, Moved: 30}) || e != api.OK {
		t.Errorf("the example is %v, %d", w, e)
	}
	l := ascending()
	many := slices.Repeat(l, 300)
	for i, v := range []struct {
		s           api.Scheme
		l           []api.Entry
		memory, fan int
		e           api.Errno
	}{
		{scheme, nil, 1, 2, api.OK},
		{bad, many, 0, 0, api.ErrWord},
		{scheme, many, 0, 0, api.ErrLimit},
		{scheme, []api.Entry{{}}, 0, 2, api.ErrRange},
		{scheme, []api.Entry{{}}, 65, 2, api.ErrRange},
		{scheme, []api.Entry{{}}, 1, 1, api.ErrRange},
		{scheme, []api.Entry{{}}, 1, 9, api.ErrRange},
		{scheme, []api.Entry{{}}, math.MinInt, math.MaxInt, api.ErrRange},
		{scheme, []api.Entry{l[0], l[0], {}}, 1, 2, api.ErrWord},
		{scheme, []api.Entry{l[0], l[1], l[0]}, 1, 2, api.ErrTwice},
		{scheme, []api.Entry{l[0], l[1], l[0]}, 64, 8, api.ErrTwice},
	} {
		if m, w, e := run.Sort(v.s, v.l, v.memory, v.fan); len(m) > 0 || w != (api.Work{}) || e != v.e {
			t.Errorf("%d: Sort is %v, %v, %d", i, m, w, e)
		}
	}
}
