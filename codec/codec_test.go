package codec_test

import (
	"bytes"
	"hash/crc32"
	"math"
	"math/rand"
	"slices"
	"testing"

	"shapesearch/api"
	"shapesearch/codec"
)

// TestPutInt tests P3.1.
func TestPutInt(t *testing.T) {
	for n, want := range map[int][]byte{
		0: {0}, 1: {2}, -1: {1}, 63: {126}, -64: {127}, 64: {128, 1}, -65: {129, 1},
		math.MaxInt: {254, 255, 255, 255, 255, 255, 255, 255, 255, 1},
		math.MinInt: {255, 255, 255, 255, 255, 255, 255, 255, 255, 1},
	} {
		if b := codec.PutInt(nil, n); !slices.Equal(b, want) {
			t.Errorf("PutInt(%d) is %v", n, b)
		}
	}
	spare := []byte{7, 8, 9}
	b := codec.PutInt(spare[:1], -1)
	b[0] = 0
	if !slices.Equal(b, []byte{0, 1}) || !slices.Equal(spare, []byte{7, 8, 9}) {
		t.Errorf("PutInt has written %v over %v", b, spare)
	}
}

// TestInt tests P3.1.
func TestInt(t *testing.T) {
	r := rand.New(rand.NewSource(3))
	for range 5000 {
		n := int(r.Uint64()) >> r.Intn(64)
		b := append(codec.PutInt([]byte{200, 200}, n), 255)
		if m, at, e := codec.Int(b, 2); m != n || at != len(b)-1 || e != api.OK {
			t.Fatalf("%d is read as %d, %d, %d", n, m, at, e)
		}
	}
	high := bytes.Repeat([]byte{128}, 9)
	for i, x := range []struct {
		b     []byte
		at    int
		n, to int
		e     api.Errno
	}{
		{[]byte{2}, -1, 0, 0, api.ErrRange},
		{[]byte{2}, 2, 0, 0, api.ErrRange},
		{[]byte{2}, math.MaxInt, 0, 0, api.ErrRange},
		{[]byte{2}, 1, 0, 0, api.ErrShort},
		{nil, 0, 0, 0, api.ErrShort},
		{[]byte{128}, 0, 0, 0, api.ErrShort},
		{high, 0, 0, 0, api.ErrShort},
		{append(high[:9:9], 128), 0, 0, 0, api.ErrForm},
		{append(high[:9:9], 128, 1), 0, 0, 0, api.ErrForm},
		{append(high[:9:9], 2), 0, 0, 0, api.ErrForm},
		{append(high[:9:9], 0), 0, 0, 0, api.ErrForm},
		{append(high[:9:9], 1), 0, 1 << 62, 10, api.OK},
		{[]byte{128, 0}, 0, 0, 0, api.ErrForm},
		{[]byte{128, 0, 5}, 1, 0, 2, api.OK},
	} {
		if n, to, e := codec.Int(x.b, x.at); n != x.n || to != x.to || e != x.e {
			t.Errorf("%d: Int is %d, %d, %d", i, n, to, e)
		}
	}
}

// TestWidth tests P3.2.
func TestWidth(t *testing.T) {
	for _, x := range []struct {
		l    []int
		want int
	}{
		{nil, 0}, {[]int{0, 0}, 0}, {[]int{0, 5, 3}, 3}, {[]int{1}, 1}, {[]int{7, 8}, 4},
		{[]int{1<<32 - 1}, 32}, {[]int{1 << 32}, -1}, {[]int{5, -1}, -1}, {[]int{math.MinInt}, -1},
	} {
		if w := codec.Width(x.l); w != x.want {
			t.Errorf("Width(%v) is %d", x.l, w)
		}
	}
}

// TestPack tests P3.3.
func TestPack(t *testing.T) {
	for i, x := range []struct {
		l     []int
		width int
		want  []byte
		e     api.Errno
	}{
		{[]int{0, 5, 3}, 3, []byte{232, 0}, api.OK},
		{[]int{1, 2}, 4, []byte{33}, api.OK},
		{[]int{1<<32 - 1, 1}, 32, []byte{255, 255, 255, 255, 1, 0, 0, 0}, api.OK},
		{nil, 5, nil, api.OK},
		{[]int{0, 0}, 0, nil, api.OK},
		{[]int{0, 1}, 0, nil, api.ErrRange},
		{[]int{8}, 3, nil, api.ErrRange},
		{[]int{-1}, 32, nil, api.ErrRange},
		{[]int{0}, -1, nil, api.ErrRange},
		{[]int{0}, 33, nil, api.ErrRange},
		{make([]int, api.MaxSeries+1), 33, nil, api.ErrRange},
		{make([]int, api.MaxSeries+1), 1, nil, api.ErrLimit},
		{append(make([]int, api.MaxSeries), 2), 1, nil, api.ErrLimit},
		{make([]int, api.MaxSeries), 1, make([]byte, api.MaxSeries/8), api.OK},
	} {
		if b, e := codec.Pack(x.l, x.width); !slices.Equal(b, x.want) || e != x.e {
			t.Errorf("%d: Pack is %v, %d", i, b, e)
		}
	}
}

// TestUnpack tests P3.3.
func TestUnpack(t *testing.T) {
	r := rand.New(rand.NewSource(4))
	for range 500 {
		width := r.Intn(33)
		l := make([]int, r.Intn(50))
		for i := range l {
			l[i] = r.Intn(1 << width)
		}
		b, _ := codec.Pack(l, width)
		if m, e := codec.Unpack(b, width, len(l)); !slices.Equal(l, m) || e != api.OK {
			t.Fatalf("%v in %d bits is read as %v, %d", l, width, m, e)
		}
	}
	for i, x := range []struct {
		b            []byte
		width, count int
		e            api.Errno
	}{
		{[]byte{1}, -1, 1, api.ErrRange},
		{[]byte{1}, 33, -1, api.ErrRange},
		{[]byte{1}, 1, -1, api.ErrLimit},
		{[]byte{1}, 1, api.MaxSeries + 1, api.ErrLimit},
		{nil, 0, math.MaxInt, api.ErrLimit},
		{nil, 0, math.MinInt, api.ErrLimit},
		{[]byte{1}, 3, 3, api.ErrShort},
		{[]byte{1, 0, 0}, 3, 3, api.ErrForm},
		{[]byte{1, 2}, 3, 3, api.ErrForm},
		{[]byte{1, 128}, 3, 3, api.ErrForm},
		{[]byte{0}, 0, 3, api.ErrForm},
		{[]byte{1, 1}, 3, 3, api.OK},
		{nil, 0, api.MaxSeries, api.OK},
	} {
		if l, e := codec.Unpack(x.b, x.width, x.count); e != x.e || e != api.OK && len(l) > 0 {
			t.Errorf("%d: Unpack is %v, %d", i, l, e)
		}
	}
}

// TestSum tests P3.4.
func TestSum(t *testing.T) {
	if s := codec.Sum([]byte("123456789")); s != 0xCBF43926 {
		t.Errorf("the sum is %x", s)
	}
	b := make([]byte, 300)
	for i := range b {
		b[i] = byte(i * 7)
		if codec.Sum(b[:i]) != crc32.ChecksumIEEE(b[:i]) {
			t.Errorf("the sum of %d bytes is wrong", i)
		}
	}
}
