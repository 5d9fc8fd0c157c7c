package resample_test

import (
	"math"
	"math/big"
	"math/rand"
	"slices"
	"testing"

	"shapesearch/api"
	"shapesearch/resample"
)

func grid(rule, reach int) api.Grid { return api.Grid{Step: 1, Rule: rule, Reach: reach} }

var badGrids = []api.Grid{
	{}, {From: -1, Step: 1, Rule: 1}, {From: api.MaxTime + 1, Step: 1, Rule: 1}, {Step: 0, Rule: 1}, {Step: api.MaxTime + 1, Rule: 1},
	{Step: 1, Count: -1, Rule: 1}, {Step: 1, Count: api.MaxSeries + 1, Rule: 1}, {From: api.MaxTime, Step: 1, Count: 2, Rule: 1}, {Step: api.MaxTime, Count: 3, Rule: 1},
	{Step: 1, Rule: 0}, {Step: 1, Rule: 4}, {Step: 1, Rule: 1, Reach: -1}, {Step: 1, Rule: 1, Reach: api.MaxTime + 1}, {Step: math.MaxInt, Count: math.MaxInt, Rule: 1},
}

// TestValid tests P8.1.
func TestValid(t *testing.T) {
	for _, g := range []api.Grid{
		grid(1, 0), grid(2, 5), grid(3, api.MaxTime), {From: api.MaxTime, Step: api.MaxTime, Count: 1, Rule: 1}, {From: api.MaxTime, Step: 1, Rule: 1},
		{Step: api.MaxTime, Count: 2, Rule: 1}, {From: api.MaxTime - 1999, Step: 1, Count: 2000, Rule: 2},
	} {
		if !resample.Valid(g) {
			t.Errorf("%v is not valid", g)
		}
	}
	for _, g := range badGrids {
		if resample.Valid(g) {
			t.Errorf("%v is valid", g)
		}
	}
}

// TestExamples tests P8.1 by the examples of the chapter.
func TestExamples(t *testing.T) {
	l := []api.Reading{{Time: 10, Value: 0}, {Time: 20, Value: 5}}
	none := func(int) (int, bool) { return 0, false }
	for _, x := range []struct {
		g    api.Grid
		want func(time int) (int, bool)
	}{
		{grid(api.RuleHold, 10), func(time int) (int, bool) {
			if time < 10 || time > 30 {
				return none(time)
			}
			return time / 20 * 5, true
		}},
		{grid(api.RuleNearest, 3), func(time int) (int, bool) {
			if time >= 7 && time <= 13 {
				return 0, true
			}
			if time >= 17 && time <= 23 {
				return 5, true
			}
			return none(time)
		}},
		{grid(api.RuleNearest, 5), func(time int) (int, bool) {
			if time < 5 || time > 25 {
				return none(time)
			}
			return (time - 6) / 10 * 5, true
		}},
		{grid(api.RuleLinear, 9), func(time int) (int, bool) {
			if time < 10 || time > 20 {
				return none(time)
			}
			return (time - 9) / 2, true
		}},
		{grid(api.RuleLinear, 5), func(time int) (int, bool) {
			if time != 10 && time != 15 && time != 20 {
				return none(time)
			}
			return (time - 9) / 2, true
		}},
		{badGrids[1], none},
	} {
		for time := range 40 {
			v, there := resample.At(l, x.g, time)
			if want, ok := x.want(time); v != want || there != ok {
				t.Errorf("%v at %d: %d, %v, want %d, %v", x.g, time, v, there, want, ok)
			}
		}
	}
}

// slow is the definition of the value at a time, by looking at all readings.
func slow(l []api.Reading, g api.Grid, time int) (int, bool) {
	before, after, nearest := -1, -1, -1
	away := func(i int) int { return max(l[i].Time-time, time-l[i].Time) }
	for i, r := range l {
		if r.Time <= time {
			before = i
		}
		if r.Time >= time && after < 0 {
			after = i
		}
		if nearest < 0 || away(i) < away(nearest) {
			nearest = i
		}
	}
	switch {
	case g.Rule == api.RuleHold && before >= 0 && away(before) <= g.Reach:
		return l[before].Value, true
	case g.Rule == api.RuleNearest && nearest >= 0 && away(nearest) <= g.Reach:
		return l[nearest].Value, true
	case g.Rule == api.RuleLinear && before >= 0 && after >= 0 && away(before) <= g.Reach && away(after) <= g.Reach:
		if before == after {
			return l[before].Value, true
		}
		a, b := l[before], l[after]
		x := big.NewRat(int64(a.Value*(b.Time-time)+b.Value*(time-a.Time)), int64(b.Time-a.Time))
		x.Add(x, big.NewRat(1, 2))
		return int(new(big.Int).Div(x.Num(), x.Denom()).Int64()), true
	}
	return 0, false
}

// TestApply tests P8.2, and P8.1 at the same times.
func TestApply(t *testing.T) {
	r := rand.New(rand.NewSource(10))
	for range 400 {
		var l []api.Reading
		unit := 1 + r.Intn(1<<30)
		for time := r.Intn(9) * unit; len(l) < r.Intn(12); time += (1 + r.Intn(8)) * unit {
			l = append(l, api.Reading{Time: time, Value: r.Intn(2001) - 1000})
		}
		g := api.Grid{From: r.Intn(9 * unit), Step: 1 + r.Intn(unit), Count: r.Intn(40), Rule: 1 + r.Intn(3), Reach: r.Intn(9 * unit)}
		s, e := resample.Apply(l, g)
		if e != api.OK || s.Start != g.From || s.Step != g.Step || len(s.Values) != g.Count {
			t.Fatalf("Apply(%v, %v) is %v, %d", l, g, s, e)
		}
		for i, v := range s.Values {
			time := g.From + i*g.Step
			want, there := slow(l, g, time)
			if w, ok := resample.At(l, g, time); w != want || ok != there {
				t.Fatalf("At(%v, %v, %d) is %d, %v", l, g, time, w, ok)
			}
			if !there {
				want = api.Missing
			}
			if v != want {
				t.Fatalf("the value %d of %v, %v is %d, want %d", i, l, g, v, want)
			}
		}
	}
}

// TestErrors tests the invalid arguments of P8.1 and P8.2.
func TestErrors(t *testing.T) {
	full := make([]api.Reading, api.MaxReadings)
	for i := range full {
		full[i].Time = i
	}
	for i, x := range []struct {
		l []api.Reading
		g api.Grid
		e api.Errno
	}{
		{full, grid(1, 0), api.OK},
		{append(full[:2000:2000], api.Reading{Time: -1}), badGrids[0], api.ErrForm},
		{append(full[:2000:2000], api.Reading{Time: -1}), grid(1, 0), api.ErrLimit},
		{append(full[:1999:1999], api.Reading{Time: -1}), grid(1, 0), api.ErrRange},
		{[]api.Reading{{Value: 1001}, {Value: 0}}, grid(1, 0), api.ErrRange},
		{[]api.Reading{{Time: 5}, {Time: 5}}, grid(1, 0), api.ErrOrder},
		{[]api.Reading{{Time: 5}, {Time: 4}}, grid(1, 0), api.ErrOrder},
	} {
		if s, e := resample.Apply(x.l, x.g); e != x.e || e != api.OK && (s.Start != 0 || s.Step != 0 || len(s.Values) > 0) {
			t.Errorf("%d: Apply is %v, %d, want %d", i, s, e, x.e)
		}
		if v, there := resample.At(x.l, x.g, x.l[0].Time); there != (x.e == api.OK) || v != 0 {
			t.Errorf("%d: At is %d, %v", i, v, there)
		}
	}
	reach := api.Grid{Step: 1, Rule: api.RuleHold, Reach: api.MaxTime}
	for time, want := range map[int]bool{-1: false, 0: true, api.MaxTime: true, api.MaxTime + 1: false, math.MinInt: false} {
		if _, there := resample.At(full, reach, time); there != want {
			t.Errorf("At %d there is a value, or not: %v", time, there)
		}
	}
	if s, e := resample.Apply(nil, api.Grid{From: 7, Step: 3, Count: 2, Rule: 3}); s.Start != 7 || s.Step != 3 || !slices.Equal(s.Values, []int{api.Missing, api.Missing}) || e != api.OK {
		t.Errorf("without readings: %v, %d", s, e)
	}
}
