package chain_test

import (
	"math"
	"math/rand"
	"slices"
	"testing"

	"shapesearch/api"
	"shapesearch/chain"
	"shapesearch/profile"
	"shapesearch/trial"
)

// made returns a profile of n windows with these neighbours to the right and to the left, all at the distance 0.
func made(n int, right, left map[int]int) api.Profile {
	zero := api.Ratio{Den: 1}
	none := slices.Repeat([]api.Neighbour{{At: -1, Distance: zero}}, n)
	p := api.Profile{Measure: api.Measure{Kind: 1}, Length: 2, Zone: 1, All: slices.Clone(none), Left: slices.Clone(none), Right: slices.Clone(none)}
	for i, k := range right {
		p.Right[i] = api.Neighbour{At: k, Distance: zero}
		p.All[i] = p.Right[i]
	}
	for i, k := range left {
		p.Left[i] = api.Neighbour{At: k, Distance: zero}
		p.All[i] = p.Left[i]
	}
	return p
}

// TestExamples tests P41.1 by cases that are written out.
func TestExamples(t *testing.T) {
	p := made(9, map[int]int{0: 3, 3: 7, 1: 4, 4: 5, 5: 8}, map[int]int{3: 0, 7: 2, 4: 1, 5: 4, 8: 0})
	if !profile.Valid(p) {
		t.Fatal("the profile is not valid")
	}
	if l, e := chain.Links(p); !slices.Equal(l, []int{3, 4, -1, -1, 5, -1, -1, -1, -1}) || e != api.OK {
		t.Errorf("Links is %v, %d", l, e)
	}
	for start, want := range [][]int{{0, 3}, {1, 4, 5}, nil, {3}, {4, 5}, {5}, nil, {7}, {8}} {
		if l, e := chain.From(p, start); !slices.Equal(l, want) || e != api.OK {
			t.Errorf("From %d is %v, %d", start, l, e)
		}
	}
	if l, e := chain.Longest(p); !slices.Equal(l, []int{1, 4, 5}) || e != api.OK {
		t.Errorf("Longest is %v, %d", l, e)
	}
	equal := made(6, map[int]int{1: 2, 3: 4}, map[int]int{2: 1, 4: 3})
	if l, e := chain.Longest(equal); !slices.Equal(l, []int{1, 2}) || e != api.OK {
		t.Errorf("the first of the longest is %v, %d", l, e)
	}
	for _, n := range []int{0, 3} {
		if l, e := chain.Longest(made(n, nil, nil)); len(l) > 0 || e != api.OK {
			t.Errorf("Longest of %d windows without neighbours is %v, %d", n, l, e)
		}
	}
}

// TestRandom tests P41.1 by its definition.
func TestRandom(t *testing.T) {
	r := rand.New(rand.NewSource(77))
	longest := 0
	for i := range 200 {
		p, _ := profile.Of(trial.Samples(r.Intn, r.Intn(70), 1+r.Intn(15), 40), trial.Measure(r.Intn, 1+i%5), 2+r.Intn(5), 1+r.Intn(6))
		links, e := chain.Links(p)
		if len(links) != len(p.All) || e != api.OK {
			t.Fatalf("Links is %v, %d", links, e)
		}
		var best []int
		for start := range p.All {
			want := -1
			if k := p.Right[start].At; k != -1 && p.Left[k].At == start {
				want = k
			}
			if links[start] != want {
				t.Fatalf("%d is linked to %d, want %d", start, links[start], want)
			}
			var l []int
			if p.Left[start].At != -1 || p.Right[start].At != -1 {
				for at := start; at != -1; at = links[at] {
					l = append(l, at)
				}
			}
			if got, e := chain.From(p, start); !slices.Equal(got, l) || e != api.OK {
				t.Fatalf("From %d is %v, %d, want %v", start, got, e, l)
			}
			if len(l) > len(best) {
				best = l
			}
		}
		if got, e := chain.Longest(p); !slices.Equal(got, best) || e != api.OK {
			t.Fatalf("Longest is %v, %d, want %v", got, e, best)
		}
		longest = max(longest, len(best))
	}
	if longest < 3 {
		t.Errorf("no chain has more than %d windows", longest)
	}
}

// TestErrors tests the errors of P41.1.
func TestErrors(t *testing.T) {
	good, bad := made(5, nil, nil), made(5, nil, nil)
	bad.Zone = 0
	if l, e := chain.Links(bad); len(l) > 0 || e != api.ErrState {
		t.Errorf("Links is %v, %d", l, e)
	}
	if l, e := chain.Longest(bad); len(l) > 0 || e != api.ErrState {
		t.Errorf("Longest is %v, %d", l, e)
	}
	for _, start := range []int{-1, 5, math.MinInt, math.MaxInt} {
		if l, e := chain.From(bad, start); len(l) > 0 || e != api.ErrState {
			t.Errorf("From is %v, %d", l, e)
		}
		if l, e := chain.From(good, start); len(l) > 0 || e != api.ErrPlace {
			t.Errorf("From %d is %v, %d", start, l, e)
		}
	}
}
