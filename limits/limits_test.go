package limits_test

import (
	"slices"
	"testing"

	"shapesearch/api"
	"shapesearch/limits"
)

func TestSamples(t *testing.T) {
	for n, want := range map[int]bool{-1000: true, 0: true, 1000: true, -1001: false, 1001: false, api.Missing: false} {
		if limits.Sample(n) != want || limits.Samples([]int{0, n}) != want {
			t.Errorf("%d is taken for a sample, or not", n)
		}
		if limits.Values([]int{0, n}) != (want || n == api.Missing) {
			t.Errorf("%d is taken for a value, or not", n)
		}
	}
}

func TestWindows(t *testing.T) {
	long := slices.Repeat([]int{1}, api.MaxWindow)
	for _, x := range []struct {
		x, y []int
		band int
		e    api.Errno
	}{
		{[]int{1, 2}, []int{1, 2}, 0, api.OK},
		{long, long[1:], 1, api.OK},
		{long[1:], long, 1, api.OK},
		{long, long[1:], 0, api.ErrLength},
		{long[1:], long, 0, api.ErrLength},
		{[]int{1}, []int{1, 2000}, 9, api.ErrLength},
		{[]int{1, 2000}, append(long, 1), 9, api.ErrLength},
		{[]int{1, 2000}, []int{1, 2, 3}, 0, api.ErrSample},
		{[]int{1, 2, 3}, []int{-1001, 2}, 0, api.ErrSample},
	} {
		if e := limits.Windows(x.x, x.y, x.band); e != x.e {
			t.Errorf("Windows(%v, %v, %d) is %d, want %d", x.x, x.y, x.band, e, x.e)
		}
	}
	if limits.Warped(nil, nil, -1) != api.ErrRange || limits.Warped(nil, nil, 33) != api.ErrRange || limits.Warped(long, long[2:], 1) != api.ErrLength || limits.Warped(long, long[2:], 2) != api.OK {
		t.Error("Warped is wrong")
	}
	if limits.Window(long) != api.OK || limits.Window(append(long, 5000)) != api.ErrLength || limits.Window([]int{1, 1001}) != api.ErrSample {
		t.Error("Window is wrong")
	}
}

func TestNumbers(t *testing.T) {
	for _, x := range []struct {
		got, want api.Errno
	}{
		{limits.Pieces(32, 8), api.OK},
		{limits.Pieces(32, 9), api.ErrRange},
		{limits.Pieces(3, 4), api.ErrRange},
		{limits.Pieces(3, 0), api.ErrRange},
		{limits.Count(1), api.OK},
		{limits.Count(0), api.ErrCount},
		{limits.Count(api.MaxAnswers + 1), api.ErrCount},
		{limits.Zone(api.MaxZone), api.OK},
		{limits.Zone(0), api.ErrZone},
		{limits.Zone(api.MaxZone + 1), api.ErrZone},
		{limits.Readings([]api.Reading{{Time: api.MaxTime, Value: -1000}}), api.OK},
		{limits.Readings([]api.Reading{{Time: -1}}), api.ErrRange},
		{limits.Readings([]api.Reading{{Value: 1001}}), api.ErrRange},
		{limits.Readings(make([]api.Reading, api.MaxReadings+1)), api.ErrLimit},
	} {
		if x.got != x.want {
			t.Errorf("%d, want %d", x.got, x.want)
		}
	}
}
