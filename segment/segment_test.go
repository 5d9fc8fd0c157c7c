package segment_test

import (
	"bytes"
	"math"
	"math/rand"
	"slices"
	"testing"

	"shapesearch/api"
	"shapesearch/codec"
	"shapesearch/segment"
)

// sealed adds the sum to bytes.
func sealed(b ...byte) []byte {
	s := codec.Sum(b)
	return append(slices.Clip(b), byte(s), byte(s>>8), byte(s>>16), byte(s>>24))
}

// head returns the beginning of a segment.
func head(kind byte, count, least, span, sum int) []byte {
	b := []byte{kind}
	for _, n := range []int{count, least, span, sum} {
		b = codec.PutInt(b, n)
	}
	return b
}

func ramp(count, step int) []int {
	l := make([]int, count)
	for i := range l {
		l[i] = i * step
	}
	return l
}

// random returns samples of all kinds of segments.
func random(r *rand.Rand, count int) []int {
	l := make([]int, count)
	last, spread := r.Intn(1001)-500, 1+r.Intn(1+r.Intn(400))
	for i := range l {
		if r.Intn(3) > 0 {
			last = min(max(last+r.Intn(spread)-spread/2, -1000), 1000)
		}
		l[i] = last
	}
	return l
}

// TestEncode tests P10.1.
func TestEncode(t *testing.T) {
	for i, x := range []struct {
		l    []int
		want []byte
		e    api.Errno
	}{
		{[]int{7, 7, 7}, sealed(0, 6, 14, 0, 42), api.OK},
		{[]int{-1000}, sealed(head(0, 1, -1000, 0, -1000)...), api.OK},
		{ramp(8, 1), sealed(append(head(1, 8, 0, 7, 28), 0x88, 0xC6, 0xFA)...), api.OK},
		{ramp(8, 100), sealed(append(head(2, 8, 0, 700, 2800), 0, 8, 200, 200, 200, 200, 200, 200, 200)...), api.OK},
		{[]int{5, 6}, sealed(append(head(1, 2, 5, 1, 11), 2)...), api.OK},
		{ramp(65, 0), nil, api.ErrLength},
		{nil, nil, api.ErrLength},
		{append(ramp(64, 0), 1001), nil, api.ErrLength},
		{[]int{0, 1001}, nil, api.ErrSample},
		{[]int{api.Missing}, nil, api.ErrSample},
	} {
		if b, e := segment.Encode(x.l); !bytes.Equal(b, x.want) || e != x.e {
			t.Errorf("%d: Encode is %v, %d, want %v", i, b, e, x.want)
		}
	}
}

// TestDecode tests P10.2.
func TestDecode(t *testing.T) {
	r := rand.New(rand.NewSource(12))
	seen := map[int]int{}
	for range 3000 {
		l := random(r, 1+r.Intn(64))
		b, e := segment.Encode(l)
		if m, errno := segment.Decode(b); !slices.Equal(l, m) || e != api.OK || errno != api.OK {
			t.Fatalf("%v is read as %v, %d, %d", l, m, e, errno)
		}
		want := api.Head{Kind: int(b[0]), Count: len(l), Least: slices.Min(l), Greatest: slices.Max(l)}
		for _, n := range l {
			want.Sum += n
		}
		if h, e := segment.Summary(b); h != want || e != api.OK {
			t.Fatalf("the summary of %v is %v, %d", l, h, e)
		}
		seen[want.Kind]++
		changed := slices.Clone(b)
		changed[r.Intn(len(b))] ^= byte(1 + r.Intn(255))
		if m, e := segment.Decode(changed); len(m) > 0 || e == api.OK {
			t.Fatalf("a changed segment is read as %v, %d", m, e)
		}
		// With a new sum, what was changed may be a segment, but then that of its samples.
		changed = sealed(changed[:len(changed)-4]...)
		if m, e := segment.Decode(changed); e == api.OK {
			if again, _ := segment.Encode(m); !bytes.Equal(again, changed) {
				t.Fatalf("%v is read, but is not the segment of %v", changed, m)
			}
		} else if e != api.ErrForm {
			t.Fatalf("%v is %d", changed, e)
		}
	}
	if len(seen) != 3 {
		t.Errorf("not all kinds occur: %v", seen)
	}
}

// TestDecodeErrors tests P10.2.
func TestDecodeErrors(t *testing.T) {
	for i, x := range []struct {
		b []byte
		e api.Errno
	}{
		{nil, api.ErrShort},
		{sealed(0, 6, 14, 0), api.ErrShort},
		{make([]byte, 9), api.ErrSum},
		{sealed(0, 0, 0, 0, 0), api.ErrForm},
		{sealed(0, 6, 14, 0, 42, 0), api.ErrForm},
		{sealed(0, 6, 14, 0, 44), api.ErrForm},
		{sealed(0, 6, 14, 2, 42), api.ErrForm},
		{sealed(3, 6, 14, 0, 42), api.ErrForm},
		{sealed(1, 6, 14, 0, 42), api.ErrForm},
		{sealed(0, 128, 128, 128, 128), api.ErrForm},
		{sealed(append(head(2, 3, 7, 0, 21), 14, 0)...), api.ErrForm},
		{sealed(head(0, 65, 0, 0, 0)...), api.ErrForm},
		{sealed(head(0, -1, 0, 0, 0)...), api.ErrForm},
		{sealed(head(0, math.MaxInt, 0, 0, 0)...), api.ErrForm},
		{sealed(head(0, 1, 1001, 0, 1001)...), api.ErrForm},
		{sealed(append(head(1, 2, math.MaxInt, math.MinInt, 0), 2)...), api.ErrForm},
		{sealed(append(head(2, 8, 0, 700, 2800), 0, 33, 200)...), api.ErrForm},
		{sealed(head(2, 8, 0, 700, 2800)...), api.ErrForm},
		{sealed(append(head(2, 8, 0, 700, 2800), 0)...), api.ErrForm},
		{sealed(append(head(2, 8, 0, 700, 2800), 0, 9, 200, 144, 33, 67, 134, 12, 25, 0)...), api.ErrForm},
		{sealed(append(head(2, 8, 0, 7, 28), 0, 2, 0xAA, 0x2A)...), api.ErrForm},
	} {
		if l, e := segment.Decode(x.b); len(l) > 0 || e != x.e {
			t.Errorf("%d: Decode is %v, %d, want %d", i, l, e, x.e)
		}
		if h, e := segment.Summary(x.b); h != (api.Head{}) || e != x.e {
			t.Errorf("%d: Summary is %v, %d, want %d", i, h, e, x.e)
		}
	}
}

// TestStore tests P10.3: how series are divided, and that they are loaded as they were stored.
func TestStore(t *testing.T) {
	s := api.Series{Start: 5, Step: 2, Values: slices.Concat(ramp(130, 3), []int{api.Missing}, ramp(64, 2), []int{api.Missing, api.Missing}, []int{4}, []int{api.Missing})}
	l, e := segment.Store(s)
	var froms []int
	for _, g := range l {
		froms = append(froms, g.From)
		part, _ := segment.Decode(g.Bytes)
		if want, _ := segment.Encode(s.Values[g.From : g.From+len(part)]); !bytes.Equal(want, g.Bytes) {
			t.Errorf("the segment at %d is wrong", g.From)
		}
	}
	if !slices.Equal(froms, []int{0, 64, 128, 131, 197}) || e != api.OK {
		t.Errorf("segments at %v, %d", froms, e)
	}
	if l, e := segment.Store(api.Series{Step: 0}); len(l) > 0 || e != api.ErrForm {
		t.Errorf("an invalid series is stored: %v, %d", l, e)
	}
	r := rand.New(rand.NewSource(13))
	for range 200 {
		s := api.Series{Start: r.Intn(100), Step: 1 + r.Intn(9)}
		for len(s.Values) < r.Intn(500) {
			s.Values = append(append(s.Values, random(r, 1+r.Intn(150))...), slices.Repeat([]int{api.Missing}, r.Intn(3))...)
		}
		l, _ := segment.Store(s)
		if m, e := segment.Load(l, s.Start, s.Step, len(s.Values)); m.Start != s.Start || m.Step != s.Step || !slices.Equal(m.Values, s.Values) || e != api.OK {
			t.Fatalf("%v is loaded as %v, %d", s, m, e)
		}
	}
}

// TestLoadErrors tests the errors of P10.3.
func TestLoadErrors(t *testing.T) {
	three, _ := segment.Encode([]int{1, 2, 3})
	broken := append(slices.Clone(three), 0)
	one := func(from int) api.Segment { return api.Segment{From: from, Bytes: three} }
	for i, x := range []struct {
		l                  []api.Segment
		start, step, count int
		e                  api.Errno
	}{
		{nil, 0, 1, 0, api.OK},
		{nil, 0, 1, api.MaxSeries, api.OK},
		{[]api.Segment{one(0), one(3), one(7)}, 0, 1, 10, api.OK},
		{[]api.Segment{{Bytes: broken}}, 0, 1, -1, api.ErrRange},
		{nil, 0, 1, api.MaxSeries + 1, api.ErrRange},
		{nil, 0, 1, math.MaxInt, api.ErrRange},
		{nil, -1, 1, 5, api.ErrRange},
		{nil, 0, 0, 5, api.ErrRange},
		{nil, api.MaxTime, api.MaxTime, 2, api.ErrRange},
		{[]api.Segment{{From: -1, Bytes: broken}}, 0, 1, 5, api.ErrSum},
		{[]api.Segment{{From: -1}}, 0, 1, 5, api.ErrShort},
		{[]api.Segment{one(-1)}, 0, 1, 5, api.ErrOrder},
		{[]api.Segment{one(math.MinInt)}, 0, 1, 5, api.ErrOrder},
		{[]api.Segment{one(0), one(2)}, 0, 1, 4, api.ErrOrder},
		{[]api.Segment{one(4), one(0)}, 0, 1, 9, api.ErrOrder},
		{[]api.Segment{one(3)}, 0, 1, 5, api.ErrRange},
		{[]api.Segment{one(math.MaxInt)}, 0, 1, 5, api.ErrRange},
		{[]api.Segment{one(3), {Bytes: broken}}, 0, 1, 5, api.ErrRange},
		{[]api.Segment{one(0), {From: 1, Bytes: broken}}, 0, 1, 5, api.ErrSum},
	} {
		if s, e := segment.Load(x.l, x.start, x.step, x.count); e != x.e || e != api.OK && (s.Start != 0 || s.Step != 0 || len(s.Values) > 0) {
			t.Errorf("%d: Load is %v, %d, want %d", i, s, e, x.e)
		}
	}
}
