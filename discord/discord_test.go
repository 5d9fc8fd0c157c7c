package discord_test

import (
	"math"
	"math/rand"
	"slices"
	"testing"

	"shapesearch/api"
	"shapesearch/discord"
	"shapesearch/profile"
	"shapesearch/ratio"
	"shapesearch/trial"
)

func num(n int) api.Ratio { return api.Ratio{Num: n, Den: 1} }

// made returns a profile in which the windows have neighbours at these distances, none for those below 0.
func made(zone int, distances ...int) api.Profile {
	n := len(distances)
	none := slices.Repeat([]api.Neighbour{{At: -1, Distance: num(0)}}, n)
	p := api.Profile{Measure: api.Measure{Kind: 1}, Length: 2, Zone: zone, All: slices.Clone(none), Left: slices.Clone(none), Right: slices.Clone(none)}
	for i, d := range distances {
		switch {
		case d < 0:
		case i+zone < n:
			p.Right[i] = api.Neighbour{At: i + zone, Distance: num(d)}
			p.All[i] = p.Right[i]
		default:
			p.Left[i] = api.Neighbour{At: i - zone, Distance: num(d)}
			p.All[i] = p.Left[i]
		}
	}
	return p
}

// TestExamples tests P40.1 to P40.3 by cases that are written out.
func TestExamples(t *testing.T) {
	for i, v := range []struct {
		p                 api.Profile
		count             int
		of, scores, above []int // above the distance 3
	}{
		{made(1, 4, 0, 9, 4), 64, []int{2, 0, 3, 1}, []int{1, 3, 0, 2}, []int{0, 2, 3}},
		{made(1, 4, 0, 9, 4), 2, []int{2, 0}, []int{1, 3, 0, 2}, []int{0, 2, 3}},
		{made(2, 4, 0, 9, 4), 64, []int{2, 0}, []int{1, 3, 0, 2}, []int{0, 2, 3}},
		{made(2, 4, -1, 9, 3, -1, 3), 64, []int{2, 0, 5}, []int{1, -1, 0, 2, -1, 3}, []int{0, 2}},
		{made(1), 1, nil, nil, nil},
		{made(1, -1, -1), 1, nil, []int{-1, -1}, nil},
	} {
		if l, e := discord.Of(v.p, v.count); !slices.Equal(l, v.of) || e != api.OK {
			t.Errorf("%d: Of is %v, %d", i, l, e)
		}
		if l, e := discord.Scores(v.p); !slices.Equal(l, v.scores) || e != api.OK {
			t.Errorf("%d: Scores is %v, %d", i, l, e)
		}
		if l, e := discord.Above(v.p, num(3)); !slices.Equal(l, v.above) || e != api.OK {
			t.Errorf("%d: Above is %v, %d", i, l, e)
		}
	}
}

// TestRandom tests P40.1 to P40.3 by their definitions.
func TestRandom(t *testing.T) {
	r := rand.New(rand.NewSource(76))
	for i := range 200 {
		p, _ := profile.Of(trial.Samples(r.Intn, r.Intn(70), 1+r.Intn(15), 25), trial.Measure(r.Intn, 1+i%5), 2+r.Intn(5), 1+r.Intn(8))
		scores, e := discord.Scores(p)
		if len(scores) != len(p.All) || e != api.OK {
			t.Fatalf("Scores is %v, %d", scores, e)
		}
		byScore := map[int]int{}
		for a, x := range p.All {
			score := 0
			for b, y := range p.All {
				if c := ratio.Cmp(y.Distance, x.Distance); y.At >= 0 && (c > 0 || c == 0 && b < a) {
					score++
				}
			}
			if x.At < 0 {
				score = -1
			}
			if scores[a] != score {
				t.Fatalf("the score of %d is %d, want %d", a, scores[a], score)
			}
			byScore[score] = a
		}
		var want []int
		count := 1 + r.Intn(9)
		for score := range len(p.All) {
			a, there := byScore[score]
			near := slices.ContainsFunc(want, func(b int) bool { return max(a-b, b-a) < p.Zone })
			if there && !near && len(want) < count {
				want = append(want, a)
			}
		}
		if l, e := discord.Of(p, count); !slices.Equal(l, want) || e != api.OK {
			t.Fatalf("Of is %v, %d, want %v", l, e, want)
		}
		if len(want) == 0 {
			continue
		}
		limit := p.All[want[len(want)-1]].Distance
		var above []int
		for a, x := range p.All {
			if x.At >= 0 && ratio.Less(limit, x.Distance) {
				above = append(above, a)
			}
		}
		if l, e := discord.Above(p, limit); !slices.Equal(l, above) || e != api.OK {
			t.Fatalf("Above is %v, %d, want %v", l, e, above)
		}
	}
}

// TestErrors tests the errors of P40.1 to P40.3.
func TestErrors(t *testing.T) {
	good, bad := made(1, 4, 0, 9, 4), made(1, 4, 0, 9, 4)
	bad.All[0].Distance = num(5)
	for _, count := range []int{0, -1, 65, math.MinInt} {
		if l, e := discord.Of(bad, count); len(l) > 0 || e != api.ErrState {
			t.Errorf("Of is %v, %d", l, e)
		}
		if l, e := discord.Of(good, count); len(l) > 0 || e != api.ErrCount {
			t.Errorf("Of with %d is %v, %d", count, l, e)
		}
	}
	if l, e := discord.Scores(bad); len(l) > 0 || e != api.ErrState {
		t.Errorf("Scores is %v, %d", l, e)
	}
	for _, limit := range []api.Ratio{{}, {Num: 2, Den: 2}, {Num: -1, Den: 1}} {
		if l, e := discord.Above(bad, limit); len(l) > 0 || e != api.ErrState {
			t.Errorf("Above is %v, %d", l, e)
		}
		if l, e := discord.Above(good, limit); len(l) > 0 || e != api.ErrRange {
			t.Errorf("Above %v is %v, %d", limit, l, e)
		}
	}
}
