package series_test

import (
	"math"
	"math/rand"
	"slices"
	"testing"

	"shapesearch/api"
	"shapesearch/series"
)

const gone = api.Missing

func of(start, step int, values ...int) api.Series {
	return api.Series{Start: start, Step: step, Values: values}
}

func equal(a, b api.Series) bool {
	return a.Start == b.Start && a.Step == b.Step && slices.Equal(a.Values, b.Values)
}

var (
	example = of(100, 10, 1, 2, gone, 3, 4, 5)
	invalid = []api.Series{
		{}, of(-1, 1), of(api.MaxTime+1, 1), of(0, 0), of(0, -1), of(0, api.MaxTime+1), of(0, 1, 1001), of(0, 1, -1001), of(0, 1, gone+1),
		of(0, 1, make([]int, api.MaxSeries+1)...), of(api.MaxTime, api.MaxTime, 1, 2), of(0, api.MaxTime, 1, 2, 3), of(math.MinInt, math.MinInt, 1),
	}
)

// TestValid tests P9.1.
func TestValid(t *testing.T) {
	for _, s := range []api.Series{example, of(0, 1), of(api.MaxTime, api.MaxTime), of(api.MaxTime, api.MaxTime, 1000), of(0, api.MaxTime, -1000, gone), of(0, 1, make([]int, api.MaxSeries)...)} {
		if !series.Valid(s) {
			t.Errorf("%v is not valid", s)
		}
	}
	for _, s := range invalid {
		if series.Valid(s) || len(series.Runs(s)) > 0 || len(series.Starts(s, 1)) > 0 {
			t.Errorf("%v is valid, or has runs", s)
		}
	}
}

// TestRuns tests P9.1.
func TestRuns(t *testing.T) {
	for _, x := range []struct {
		s    api.Series
		runs []api.Run
	}{
		{example, []api.Run{{From: 0, Count: 2}, {From: 3, Count: 3}}},
		{of(0, 1), nil},
		{of(0, 1, gone, gone), nil},
		{of(0, 1, gone, 7, gone, gone, 8, 9, gone), []api.Run{{From: 1, Count: 1}, {From: 4, Count: 2}}},
	} {
		if l := series.Runs(x.s); !slices.Equal(l, x.runs) {
			t.Errorf("the runs of %v are %v", x.s, l)
		}
		for m := 1; m < 8; m++ {
			var starts []int
			for i := 0; i+m <= len(x.s.Values); i++ {
				if !slices.Contains(x.s.Values[i:i+m], gone) {
					starts = append(starts, i)
				}
			}
			if l := series.Starts(x.s, m); !slices.Equal(l, starts) {
				t.Errorf("the starts of %v with %d are %v", x.s, m, l)
			}
		}
	}
	for _, m := range []int{0, -1, math.MinInt, math.MaxInt} {
		if l := series.Starts(example, m); len(l) > 0 {
			t.Errorf("the starts with %d are %v", m, l)
		}
	}
}

// TestWindow tests the windows of P9.2.
func TestWindow(t *testing.T) {
	for i, x := range []struct {
		s       api.Series
		from, m int
		want    []int
		e       api.Errno
	}{
		{example, 0, 2, []int{1, 2}, api.OK},
		{example, 3, 3, []int{3, 4, 5}, api.OK},
		{example, 5, 1, []int{5}, api.OK},
		{example, 1, 2, nil, api.ErrMissing},
		{example, 2, 1, nil, api.ErrMissing},
		{example, -1, 2, nil, api.ErrRange},
		{example, 0, 0, nil, api.ErrRange},
		{example, 6, 1, nil, api.ErrRange},
		{example, 2, 5, nil, api.ErrRange},
		{example, math.MaxInt, math.MaxInt, nil, api.ErrRange},
		{example, 1, math.MinInt, nil, api.ErrRange},
		{of(0, 0, 1, gone), -1, 0, nil, api.ErrForm},
	} {
		if l, e := series.Window(x.s, x.from, x.m); !slices.Equal(l, x.want) || e != x.e {
			t.Errorf("%d: %v, %d", i, l, e)
		}
	}
	l, _ := series.Window(example, 0, 2)
	l[0] = 77
	if example.Values[0] != 1 {
		t.Error("a window shares memory with its series")
	}
}

// TestCut tests the cuts of P9.2.
func TestCut(t *testing.T) {
	late := of(api.MaxTime-5, 5, 1, 2, 3)
	for i, x := range []struct {
		s           api.Series
		from, count int
		want        api.Series
		e           api.Errno
	}{
		{example, 3, 2, of(130, 10, 3, 4), api.OK},
		{example, 0, 6, example, api.OK},
		{example, 2, 1, of(120, 10, gone), api.OK},
		{example, 6, 0, of(160, 10), api.OK},
		{example, 3, 0, of(130, 10), api.OK},
		{example, 7, 0, api.Series{}, api.ErrRange},
		{example, -1, 1, api.Series{}, api.ErrRange},
		{example, 1, -1, api.Series{}, api.ErrRange},
		{example, 3, 4, api.Series{}, api.ErrRange},
		{example, math.MaxInt, math.MaxInt, api.Series{}, api.ErrRange},
		{late, 1, 2, of(api.MaxTime, 5, 2, 3), api.OK},
		{late, 2, 1, api.Series{}, api.ErrRange},
		{late, 3, 0, api.Series{}, api.ErrRange},
		{of(-1, 1), -1, 0, api.Series{}, api.ErrForm},
	} {
		if s, e := series.Cut(x.s, x.from, x.count); !equal(s, x.want) || e != x.e {
			t.Errorf("%d: %v, %d", i, s, e)
		}
	}
}

// TestJoin tests P9.3.
func TestJoin(t *testing.T) {
	full := make([]int, api.MaxSeries)
	for i, x := range []struct {
		a, b, want api.Series
		e          api.Errno
	}{
		{of(100, 10, 1, 2), of(130, 10, 3, 4, 5), example, api.OK},
		{of(0, 10, 1), of(10, 10, 2), of(0, 10, 1, 2), api.OK},
		{of(0, 10), of(20, 10, 2), of(0, 10, gone, gone, 2), api.OK},
		{of(0, 10, 1), of(20, 10), of(0, 10, 1, gone), api.OK},
		{of(0, 10), of(0, 10), of(0, 10), api.OK},
		{of(api.MaxTime, 1, 1), of(api.MaxTime, 1, 2), api.Series{}, api.ErrOrder},
		{of(0, 10, 1), of(10, 5, 2), api.Series{}, api.ErrOrder},
		{of(0, 10, 1), of(0, 10, 2), api.Series{}, api.ErrOrder},
		{of(0, 10, 1), of(15, 10, 2), api.Series{}, api.ErrOrder},
		{of(0, 10, 1), of(15, 10), api.Series{}, api.ErrOrder},
		{of(0, 1, full...), of(2000, 1), of(0, 1, full...), api.OK},
		{of(0, 1, full...), of(2001, 1), api.Series{}, api.ErrLimit},
		{of(0, 1, full...), of(2000, 1, 0), api.Series{}, api.ErrLimit},
		{of(0, 1), of(api.MaxTime, 1, 1), api.Series{}, api.ErrLimit},
		{of(0, 0), of(5, 1), api.Series{}, api.ErrForm},
		{of(5, 1, 1), of(0, 1, 5000), api.Series{}, api.ErrForm},
		{of(0, api.MaxTime, 1), of(api.MaxTime, api.MaxTime, 2), of(0, api.MaxTime, 1, 2), api.OK},
	} {
		if s, e := series.Join(x.a, x.b); !equal(s, x.want) || e != x.e {
			t.Errorf("%d: %v, %d", i, s, e)
		}
	}
	r := rand.New(rand.NewSource(11))
	for range 200 {
		s := of(r.Intn(1000), 1+r.Intn(9), make([]int, r.Intn(20))...)
		for i := range s.Values {
			s.Values[i] = []int{gone, r.Intn(2001) - 1000}[r.Intn(2)]
		}
		i := r.Intn(len(s.Values) + 1)
		a, _ := series.Cut(s, 0, i)
		b, _ := series.Cut(s, i, len(s.Values)-i)
		if j, e := series.Join(a, b); !equal(j, s) || e != api.OK {
			t.Fatalf("the parts of %v are joined to %v, %d", s, j, e)
		}
	}
}
