package clean_test

import (
	"math/rand"
	"slices"
	"testing"

	"shapesearch/api"
	"shapesearch/clean"
)

var (
	policies = []int{api.PolicyFirst, api.PolicyLast, api.PolicyLeast, api.PolicyGreatest, api.PolicyMean, api.PolicyRefuse}
	example  = []api.Reading{{Time: 5, Value: 1}, {Time: 3, Value: 9}, {Time: 5, Value: 4}}
)

// TestClean tests the policies of P7.1.
func TestClean(t *testing.T) {
	for _, x := range []struct {
		l      []api.Reading
		values [5]int // of the time 5, by the policies 1 to 5
	}{
		{example, [5]int{1, 4, 1, 4, 3}},
		{[]api.Reading{{Time: 5, Value: -4}, {Time: 3, Value: 9}, {Time: 5, Value: -7}}, [5]int{-4, -7, -7, -4, -5}},
		{[]api.Reading{{Time: 5, Value: 2}, {Time: 3, Value: 9}, {Time: 5, Value: 9}, {Time: 5, Value: -9}, {Time: 5, Value: 4}}, [5]int{2, 4, -9, 9, 2}},
	} {
		for i, v := range x.values {
			want := []api.Reading{{Time: 3, Value: 9}, {Time: 5, Value: v}}
			if l, e := clean.Clean(x.l, i+1); !slices.Equal(l, want) || e != api.OK {
				t.Errorf("policy %d of %v: %v, %d", i+1, x.l, l, e)
			}
		}
		if l, e := clean.Clean(x.l, api.PolicyRefuse); len(l) > 0 || e != api.ErrTwice {
			t.Errorf("refuse: %v, %d", l, e)
		}
	}
	for _, p := range policies {
		if l, e := clean.Clean(nil, p); len(l) > 0 || e != api.OK {
			t.Errorf("policy %d of nothing: %v, %d", p, l, e)
		}
		if l, e := clean.Clean(example[:2], p); !slices.Equal(l, []api.Reading{example[1], example[0]}) || e != api.OK {
			t.Errorf("policy %d of different times: %v, %d", p, l, e)
		}
	}
	if !slices.Equal(example, []api.Reading{{Time: 5, Value: 1}, {Time: 3, Value: 9}, {Time: 5, Value: 4}}) {
		t.Error("the argument was sorted")
	}
}

// TestCleanErrors tests the errors of P7.1 in their order.
func TestCleanErrors(t *testing.T) {
	full := make([]api.Reading, api.MaxReadings)
	wrong := append(full[:1999:1999], api.Reading{Value: 1001})
	for i, x := range []struct {
		l      []api.Reading
		policy int
		e      api.Errno
	}{
		{append(wrong, wrong...), 0, api.ErrForm},
		{nil, 7, api.ErrForm},
		{nil, -1, api.ErrForm},
		{append(wrong, wrong...), 6, api.ErrLimit},
		{wrong, 6, api.ErrRange},
		{[]api.Reading{{Time: -1}}, 1, api.ErrRange},
		{[]api.Reading{{Time: api.MaxTime + 1}}, 1, api.ErrRange},
		{full, 6, api.ErrTwice},
		{full, 5, api.OK},
	} {
		l, e := clean.Clean(x.l, x.policy)
		if e != x.e || (len(l) > 0) != (e == api.OK) {
			t.Errorf("%d: %v, %d, want %d", i, l, e, x.e)
		}
	}
}

// TestMerge tests P7.2.
func TestMerge(t *testing.T) {
	r := rand.New(rand.NewSource(9))
	for range 200 {
		all := make([]api.Reading, r.Intn(40))
		for i := range all {
			all[i] = api.Reading{Time: r.Intn(20), Value: r.Intn(100) - 50}
		}
		i := r.Intn(len(all) + 1)
		j := i + r.Intn(len(all)-i+1)
		for _, p := range policies {
			want, wantE := clean.Clean(all, p)
			if l, e := clean.Merge([][]api.Reading{all[:i], nil, all[i:j], all[j:]}, p); !slices.Equal(l, want) || e != wantE {
				t.Fatalf("Merge is %v, %d, want %v, %d", l, e, want, wantE)
			}
		}
	}
	half := make([]api.Reading, api.MaxReadings/2+1)
	if l, e := clean.Merge([][]api.Reading{half, half}, 1); len(l) > 0 || e != api.ErrLimit {
		t.Errorf("too many: %v, %d", l, e)
	}
	if l, e := clean.Merge(nil, 9); len(l) > 0 || e != api.ErrForm {
		t.Errorf("no policy: %v, %d", l, e)
	}
}

// TestRepeated tests P7.3.
func TestRepeated(t *testing.T) {
	for i, x := range []struct {
		l    []api.Reading
		want []int
	}{
		{nil, nil},
		{example, []int{5}},
		{[]api.Reading{{Time: 9}, {Time: 2}, {Time: 9}, {Time: 7}, {Time: 2}, {Time: 9}}, []int{2, 9}},
		{[]api.Reading{{Time: 9}, {Time: 9}, {Time: -1}}, nil},
		{make([]api.Reading, api.MaxReadings), []int{0}},
		{make([]api.Reading, api.MaxReadings+1), nil},
	} {
		if l := clean.Repeated(x.l); !slices.Equal(l, x.want) {
			t.Errorf("%d: %v", i, l)
		}
	}
}
