package watch_test

import (
	"math"
	"math/rand"
	"reflect"
	"slices"
	"testing"

	"shapesearch/api"
	"shapesearch/copies"
	"shapesearch/measure"
	"shapesearch/ratio"
	"shapesearch/trial"
	"shapesearch/watch"
)

func num(n int) api.Ratio { return api.Ratio{Num: n, Den: 1} }

func of(limit int, query ...int) api.Watch {
	return api.Watch{Measure: api.Measure{Kind: 1}, Query: query, Limit: num(limit)}
}

func alert(watch, start, d int) api.Alert {
	return api.Alert{Watch: watch, Start: start, Distance: num(d)}
}

// feed feeds samples to watches, and returns the state, and the alerts and results of each sample.
func feed(t *testing.T, l []api.Watch, samples ...int) (api.Stream, [][]api.Alert, [][]api.Alert) {
	t.Helper()
	s, e := watch.New(l)
	if e != api.OK {
		t.Fatal(e)
	}
	var alerts, results [][]api.Alert
	for _, n := range samples {
		before := copies.Stream(s)
		next, a, r, e := watch.Feed(s, n)
		if e != api.OK || !reflect.DeepEqual(s, before) || !watch.Valid(next) {
			t.Fatalf("Feed of %d to %v is %v, %d", n, s, next, e)
		}
		s, alerts, results = next, append(alerts, a), append(results, r)
	}
	return s, alerts, results
}

// TestCheck tests P44.1.
func TestCheck(t *testing.T) {
	eight := slices.Repeat([]api.Watch{of(0, 0, 1)}, 8)
	bad := of(0, 0, 1)
	bad.Limit = api.Ratio{Num: 2, Den: 2}
	measured := of(-1, 0)
	measured.Measure = trial.BadMeasure()
	for i, v := range []struct {
		l []api.Watch
		e api.Errno
	}{
		{nil, api.OK},
		{eight, api.OK},
		{append(eight[:8:8], measured), api.ErrLimit},
		{[]api.Watch{of(0, 0, 1), measured}, api.ErrMeasure},
		{[]api.Watch{of(-1, 1001)}, api.ErrLength},
		{[]api.Watch{of(-1, make([]int, 33)...)}, api.ErrLength},
		{[]api.Watch{of(-1, 0, 1001)}, api.ErrSample},
		{[]api.Watch{bad, measured}, api.ErrRange},
		{[]api.Watch{{Measure: api.Measure{Kind: 1}, Query: []int{1, 2}}}, api.ErrRange},
	} {
		if e := watch.Check(v.l); e != v.e {
			t.Errorf("%d: Check is %d", i, e)
		}
		s, e := watch.New(v.l)
		if e != v.e || s.Count != 0 || len(s.Recent) > 0 {
			t.Errorf("%d: New is %v, %d", i, s, e)
		}
		if e != api.OK && (len(s.Watches) > 0 || len(s.Groups) > 0) || e == api.OK && (!reflect.DeepEqual(s.Watches, v.l) || !slices.Equal(s.Groups, make([]api.Group, len(v.l)))) {
			t.Errorf("%d: New is %v, %d", i, s, e)
		}
	}
}

// TestExamples tests P44.3 and P44.4 by cases that are written out.
func TestExamples(t *testing.T) {
	const gone = api.Missing
	type lists = [][]api.Alert
	for i, v := range []struct {
		w               api.Watch
		samples         []int
		alerts, results lists
		finish          []api.Alert
	}{
		{of(0, 0, 1), []int{0, 1, 5, 5}, lists{nil, {alert(0, 0, 0)}, nil, nil}, lists{nil, nil, {alert(0, 0, 0)}, nil}, nil},
		{of(0, 0, 1), []int{0, 1, 0, 1}, lists{nil, {alert(0, 0, 0)}, nil, {alert(0, 2, 0)}}, lists{nil, nil, {alert(0, 0, 0)}, nil}, []api.Alert{alert(0, 2, 0)}},
		{of(0, 0, 1), []int{0, 1, gone, 0, 1, gone}, lists{nil, {alert(0, 0, 0)}, nil, nil, {alert(0, 3, 0)}, nil}, lists{nil, nil, {alert(0, 0, 0)}, nil, nil, {alert(0, 3, 0)}}, nil},
		{of(0, 0, 1), []int{0, gone, 1, 1}, lists{nil, nil, nil, nil}, lists{nil, nil, nil, nil}, nil},
		// The matches at 0 to 3 are equally good, so the first one is the best; the group is over with the sample 7.
		{of(2, 0, 0, 0), []int{1, 0, 0, 1, 0, 0, 9, 9, 9}, lists{nil, nil, {alert(0, 0, 1)}, {alert(0, 1, 1)}, {alert(0, 2, 1)}, {alert(0, 3, 1)}, nil, nil, nil}, lists{nil, nil, nil, nil, nil, nil, nil, {alert(0, 0, 1)}, nil}, nil},
		{of(2, 0, 0, 0), []int{1, 0, 0, 0, 9, 9, 9}, lists{nil, nil, {alert(0, 0, 1)}, {alert(0, 1, 0)}, nil, nil, nil}, lists{nil, nil, nil, nil, nil, {alert(0, 1, 0)}, nil}, nil},
		{of(0, 5, 5, 5), []int{5, 5, 5, 0, 5, 5, 5}, lists{nil, nil, {alert(0, 0, 0)}, nil, nil, nil, {alert(0, 4, 0)}}, lists{nil, nil, nil, nil, {alert(0, 0, 0)}, nil, nil}, []api.Alert{alert(0, 4, 0)}},
	} {
		s, alerts, results := feed(t, []api.Watch{v.w}, v.samples...)
		same := func(a, b lists) bool {
			return slices.EqualFunc(a, b, func(x, y []api.Alert) bool { return slices.Equal(x, y) })
		}
		if !same(alerts, v.alerts) || !same(results, v.results) {
			t.Errorf("%d: alerts %v, results %v", i, alerts, results)
		}
		after, l, e := watch.Finish(s)
		if !slices.Equal(l, v.finish) || e != api.OK || after.Groups[0] != (api.Group{}) || after.Count != s.Count || !slices.Equal(after.Recent, s.Recent) || !watch.Valid(after) {
			t.Errorf("%d: Finish is %v, %v, %d", i, after, l, e)
		}
	}
}

// TestRecent tests what P44.3 says of the last samples.
func TestRecent(t *testing.T) {
	l := []api.Watch{of(0, 0, 1), of(0, 1, 2, 3)}
	for i, v := range []struct {
		samples, recent []int
	}{
		{[]int{7}, []int{7}}, {[]int{7, 8, 9}, []int{7, 8, 9}}, {[]int{6, 7, 8, 9}, []int{7, 8, 9}}, {[]int{6, 7, api.Missing}, nil}, {[]int{6, api.Missing, 8}, []int{8}},
	} {
		if s, _, _ := feed(t, l, v.samples...); !slices.Equal(s.Recent, v.recent) || s.Count != len(v.samples) {
			t.Errorf("%d: %v", i, s)
		}
	}
	if s, _, _ := feed(t, nil, 1, 2, 3); len(s.Recent) > 0 || s.Count != 3 {
		t.Errorf("without watches: %v", s)
	}
}

// TestRandom tests T10: alerts are the matches, and results the bests of the groups, in time.
func TestRandom(t *testing.T) {
	r := rand.New(rand.NewSource(82))
	for range 200 {
		var l []api.Watch
		samples := trial.Samples(r.Intn, 80, 1+r.Intn(5), 15)
		for range r.Intn(5) {
			kind := 1 + r.Intn(5)
			w := api.Watch{Measure: trial.Measure(r.Intn, kind), Query: trial.Query(r.Intn, api.Store{Series: [][]int{samples}}, 2+r.Intn(5)), Limit: num(r.Intn(12))}
			if kind == api.KindNormal {
				w.Limit = api.Ratio{Num: 1, Den: 2}
			}
			l = append(l, w)
		}
		s, alerts, results := feed(t, l, samples...)
		_, rest, _ := watch.Finish(s)
		for i, w := range l {
			matches := find(w, i, samples)
			var got []api.Alert
			for at, a := range alerts {
				for _, x := range a {
					if x.Watch == i {
						got = append(got, x)
						if at != x.Start+len(w.Query)-1 {
							t.Fatalf("the alert %v comes with the sample %d", x, at)
						}
					}
				}
			}
			if !slices.Equal(got, matches) {
				t.Fatalf("the alerts are %v, want %v", got, matches)
			}
			checkResults(t, len(w.Query), i, matches, results, rest)
		}
	}
}

// find returns all matches of a watch.
func find(w api.Watch, watch int, samples []int) []api.Alert {
	var l []api.Alert
	for start := 0; start+len(w.Query) <= len(samples); start++ {
		x := samples[start : start+len(w.Query)]
		if slices.Contains(x, api.Missing) {
			continue
		}
		if d, _ := measure.Distance(w.Measure, w.Query, x); ratio.Cmp(d, w.Limit) <= 0 {
			l = append(l, api.Alert{Watch: watch, Start: start, Distance: d})
		}
	}
	return l
}

// checkResults divides matches into groups, and compares their bests with what was reported.
func checkResults(t *testing.T, m, watch int, matches []api.Alert, results [][]api.Alert, rest []api.Alert) {
	t.Helper()
	reported := 0
	for i := 0; i < len(matches); {
		best, last := matches[i], matches[i].Start
		for i++; i < len(matches) && matches[i].Start < last+m; i++ {
			last = matches[i].Start
			if ratio.Less(matches[i].Distance, best.Distance) {
				best = matches[i]
			}
		}
		reported++
		if over := last + 2*m - 2; over < len(results) {
			if !slices.Contains(results[over], best) {
				t.Fatalf("%v is not reported with the sample %d", best, over)
			}
		} else if !slices.Contains(rest, best) {
			t.Fatalf("%v is not reported at the end", best)
		}
	}
	got := 0
	for _, a := range slices.Concat(slices.Concat(results...), rest) {
		if a.Watch == watch {
			got++
		}
	}
	if got != reported {
		t.Fatalf("there are %d results of %d groups", got, reported)
	}
}

// TestValid tests P44.2, and the errors of P44.3 and P44.4.
func TestValid(t *testing.T) {
	l := []api.Watch{of(2, 0, 1), of(5, 1, 2, 3)}
	base, _, _ := feed(t, l, 9, 9, 0, 1)
	if !base.Groups[0].Open || base.Groups[1].Open {
		t.Fatalf("%v is of no use", base)
	}
	good := func(f func(s *api.Stream)) {
		t.Helper()
		s := copies.Stream(base)
		f(&s)
		if !watch.Valid(s) {
			t.Errorf("%v is not valid", s)
		}
	}
	open := func(start, last, d int) api.Group {
		return api.Group{Open: true, Best: alert(1, start, d), Last: last}
	}
	good(func(s *api.Stream) {})
	good(func(s *api.Stream) { s.Recent = nil })
	good(func(s *api.Stream) { s.Groups[0] = api.Group{} })
	good(func(s *api.Stream) { s.Count, s.Groups = 1<<40, make([]api.Group, 2) })
	good(func(s *api.Stream) { s.Count, s.Groups[0], s.Groups[1] = 9, api.Group{}, open(0, 6, 5) })
	good(func(s *api.Stream) { s.Count, s.Groups[0], s.Groups[1] = 9, api.Group{}, open(5, 5, 0) })
	bad := func(f func(s *api.Stream)) {
		t.Helper()
		s := copies.Stream(base)
		f(&s)
		if watch.Valid(s) {
			t.Errorf("%v is valid", s)
		}
		if x, a, r, e := watch.Feed(s, 5000); !reflect.DeepEqual(x, s) || len(a) > 0 || len(r) > 0 || e != api.ErrState {
			t.Errorf("Feed of %v is %v, %v, %v, %d", s, x, a, r, e)
		}
		if x, r, e := watch.Finish(s); !reflect.DeepEqual(x, s) || len(r) > 0 || e != api.ErrState {
			t.Errorf("Finish of %v is %v, %v, %d", s, x, r, e)
		}
	}
	group := func(g api.Group) func(s *api.Stream) {
		return func(s *api.Stream) { s.Count, s.Groups[0], s.Groups[1] = 9, api.Group{}, g }
	}
	bad(func(s *api.Stream) { s.Watches[0].Query = nil })
	bad(func(s *api.Stream) { s.Watches[0].Limit = api.Ratio{} })
	bad(func(s *api.Stream) { s.Count = -1 })
	bad(func(s *api.Stream) { s.Count, s.Groups = 1<<40+1, make([]api.Group, 2) })
	bad(func(s *api.Stream) { s.Recent = []int{1, 2, 3, 4} })
	bad(func(s *api.Stream) { s.Recent, s.Count, s.Groups[0] = []int{1, 2}, 1, api.Group{} })
	bad(func(s *api.Stream) { s.Recent[0] = 1001 })
	bad(func(s *api.Stream) { s.Recent[0] = api.Missing })
	bad(func(s *api.Stream) { s.Groups = s.Groups[:1] })
	bad(func(s *api.Stream) { s.Groups = append(s.Groups, api.Group{}) })
	bad(group(api.Group{Last: 1}))
	bad(group(api.Group{Best: alert(1, 5, 0), Last: 5}))
	bad(group(api.Group{Open: true, Best: alert(0, 5, 0), Last: 5}))
	bad(group(open(-1, 5, 0)))
	bad(group(open(6, 5, 0)))
	bad(group(open(5, 7, 0)))
	bad(group(open(4, 4, 0)))
	bad(group(open(5, 5, 6)))
	bad(group(open(math.MaxInt, math.MaxInt, 0)))
	bad(group(open(math.MinInt, math.MinInt, 0)))
	bad(group(api.Group{Open: true, Best: api.Alert{Watch: 1, Start: 5, Distance: api.Ratio{Num: 2, Den: 2}}, Last: 5}))
	bad(group(api.Group{Open: true, Best: api.Alert{Watch: 1, Start: 5}, Last: 5}))
	last := copies.Stream(base)
	last.Count, last.Groups = 1<<40, make([]api.Group, 2)
	for i, v := range []struct {
		s      api.Stream
		sample int
		e      api.Errno
	}{
		{last, 1001, api.ErrSample},
		{last, api.Missing - 1, api.ErrSample},
		{last, math.MinInt, api.ErrSample},
		{last, 1, api.ErrLimit},
		{last, api.Missing, api.ErrLimit},
	} {
		if x, a, r, e := watch.Feed(v.s, v.sample); !reflect.DeepEqual(x, v.s) || len(a) > 0 || len(r) > 0 || e != v.e {
			t.Errorf("%d: Feed is %v, %v, %v, %d", i, x, a, r, e)
		}
	}
}
