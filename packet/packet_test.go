package packet_test

import (
	"bytes"
	"math"
	"math/rand"
	"slices"
	"testing"

	"shapesearch/api"
	"shapesearch/codec"
	"shapesearch/packet"
)

// sealed returns a packet with these bytes between the letters and the sum.
func sealed(body ...byte) []byte {
	b := append([]byte("TS1"), body...)
	s := codec.Sum(b)
	return append(b, byte(s), byte(s>>8), byte(s>>16), byte(s>>24))
}

func ints(l ...int) []byte {
	var b []byte
	for _, n := range l {
		b = codec.PutInt(b, n)
	}
	return b
}

// TestEncode tests P6.1.
func TestEncode(t *testing.T) {
	full := make([]api.Reading, api.MaxReadings)
	for i, x := range []struct {
		l    []api.Reading
		want []byte
		e    api.Errno
	}{
		{nil, sealed(0), api.OK},
		{[]api.Reading{{Time: 5, Value: -1}, {Time: 5, Value: 1}}, sealed(4, 10, 1, 0, 4), api.OK},
		{[]api.Reading{{Time: 9, Value: 7}, {Time: 2, Value: 7}}, sealed(ints(2, 9, 7, -7, 0)...), api.OK},
		{full, sealed(append(ints(2000), make([]byte, 4000)...)...), api.OK},
		{append(full[:1999:1999], api.Reading{Time: -1}), nil, api.ErrRange},
		{append(full[:2000:2000], api.Reading{Time: -1}), nil, api.ErrLimit},
		{[]api.Reading{{Value: 1001}}, nil, api.ErrRange},
	} {
		b, e := packet.Encode(x.l)
		if !bytes.Equal(b, x.want) || e != x.e {
			t.Errorf("%d: Encode is %v, %d", i, b, e)
		}
		if l, e := packet.Decode(b); x.e == api.OK && (!slices.Equal(l, x.l) || e != api.OK) {
			t.Errorf("%d: Decode is %v, %d", i, l, e)
		}
	}
}

// TestDecode tests P6.2.
func TestDecode(t *testing.T) {
	r := rand.New(rand.NewSource(8))
	for range 300 {
		l := make([]api.Reading, r.Intn(30))
		for i := range l {
			l[i] = api.Reading{Time: r.Intn(api.MaxTime + 1), Value: r.Intn(2001) - 1000}
		}
		b, _ := packet.Encode(l)
		if m, e := packet.Decode(b); !slices.Equal(l, m) || e != api.OK {
			t.Fatalf("%v is read as %v, %d", l, m, e)
		}
		b[r.Intn(len(b))] ^= byte(1 + r.Intn(255))
		if m, e := packet.Decode(b); len(m) > 0 || e == api.OK {
			t.Fatalf("a changed packet is read as %v, %d", m, e)
		}
	}
}

// TestDecodeErrors tests P6.2.
func TestDecodeErrors(t *testing.T) {
	valid := sealed(0)
	for i, x := range []struct {
		b []byte
		e api.Errno
	}{
		{nil, api.ErrShort},
		{[]byte("XXXXXX"), api.ErrShort},
		{[]byte("XXXXXXX"), api.ErrForm},
		{[]byte("TS1XXXX"), api.ErrSum},
		{append(valid, 0), api.ErrSum},
		{sealed(), api.ErrShort},
		{sealed(128), api.ErrShort},
		{sealed(128, 0), api.ErrForm},
		{sealed(ints(-1)...), api.ErrLimit},
		{sealed(ints(2001)...), api.ErrLimit},
		{sealed(ints(1)...), api.ErrShort},
		{sealed(ints(1, -1)...), api.ErrShort},
		{sealed(ints(1, -1, 0)...), api.ErrRange},
		{sealed(append(ints(1, -1), 128, 0)...), api.ErrForm},
		{sealed(ints(1, api.MaxTime+1, 0)...), api.ErrRange},
		{sealed(ints(1, 0, 1001)...), api.ErrRange},
		{sealed(ints(2, 0, 1000, 0, 1, 0)...), api.ErrRange},
		{sealed(ints(2, 5, 0, math.MaxInt, 0)...), api.ErrRange},
		{sealed(ints(2, 5, 5, 0, math.MaxInt)...), api.ErrRange},
		{sealed(ints(2, 5, -5, 0, math.MinInt)...), api.ErrRange},
		{sealed(ints(2, 5, -5, math.MinInt, 0)...), api.ErrRange},
		{sealed(ints(1, 5, 5, 0)...), api.ErrForm},
		{sealed(ints(0, 0)...), api.ErrForm},
	} {
		if l, e := packet.Decode(x.b); len(l) > 0 || e != x.e {
			t.Errorf("%d: Decode is %v, %d, want %d", i, l, e, x.e)
		}
	}
}
