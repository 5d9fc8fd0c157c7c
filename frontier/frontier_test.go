package frontier_test

import (
	"math/rand"
	"slices"
	"testing"

	"shapesearch/api"
	"shapesearch/frontier"
)

func TestList(t *testing.T) {
	r := rand.New(rand.NewSource(57))
	var l frontier.List
	var all []api.Front
	for i := range 200 {
		f := api.Front{Node: i, Bound: api.Ratio{Num: r.Intn(9), Den: 1}}
		l.Put(f)
		all = append(all, f)
		if r.Intn(3) == 0 {
			slices.SortFunc(all, func(a, b api.Front) int {
				if frontier.Before(a, b) {
					return -1
				}
				return 1
			})
			if got, ok := l.Take(); got != all[0] || !ok {
				t.Fatalf("Take is %v, %v, want %v", got, ok, all[0])
			}
			all = all[1:]
		}
	}
	for range all {
		l.Take()
	}
	if f, ok := l.Take(); f != (api.Front{}) || ok {
		t.Errorf("Take of nothing is %v, %v", f, ok)
	}
}

func TestEnds(t *testing.T) {
	hit := func(n int) api.Hit { return api.Hit{Distance: api.Ratio{Num: n, Den: 1}, Place: api.Place{Start: n}} }
	best := []api.Hit{hit(1), hit(3)}
	bound := func(n int) api.Ratio { return api.Ratio{Num: n, Den: 1} }
	if !frontier.Ends(best, 2, bound(4)) || frontier.Ends(best, 2, bound(3)) || frontier.Ends(best, 3, bound(4)) || !frontier.Ends(best, 1, bound(2)) || frontier.Ends(best, 0, bound(9)) {
		t.Error("Ends is wrong")
	}
	if l := frontier.Keep(best, []api.Hit{hit(9), hit(2)}, 3); !slices.Equal(l, []api.Hit{hit(1), hit(2), hit(3)}) {
		t.Errorf("Keep is %v", l)
	}
}
