package device_test

import (
	"bytes"
	"math"
	"math/rand"
	"reflect"
	"slices"
	"testing"

	"shapesearch/api"
	"shapesearch/copies"
	"shapesearch/device"
)

func page(b ...byte) []byte { return append(b, make([]byte, api.PageBytes-len(b))...) }

func made(t *testing.T, pages int) api.Device {
	d, e := device.New(pages)
	if e != api.OK {
		t.Fatal(e)
	}
	return d
}

// must calls functions that return a device without an error.
func must(t *testing.T, d api.Device, e api.Errno) api.Device {
	t.Helper()
	if e != api.OK {
		t.Fatalf("the error %d", e)
	}
	return d
}

// badDevices returns devices that are not valid.
func badDevices() []api.Device {
	one := [][]byte{page()}
	return []api.Device{
		{}, {Pages: make([][]byte, 1)}, {Pages: slices.Repeat(one, api.MaxPages+1)}, {Pages: [][]byte{page(), page()[:63]}}, {Pages: [][]byte{append(page(), 0)}},
		{Pages: one, Pending: []api.Write{{Page: 1, Bytes: page()}}}, {Pages: one, Pending: []api.Write{{Page: -1, Bytes: page()}}}, {Pages: one, Pending: []api.Write{{Bytes: page()[:5]}}},
		{Pages: one, Pending: slices.Repeat([]api.Write{{Bytes: page()}}, api.MaxPending+1)}, {Pages: one, Pending: []api.Write{{Page: math.MinInt}}},
	}
}

// TestNew tests P24.1.
func TestNew(t *testing.T) {
	for _, n := range []int{1, 7, api.MaxPages} {
		d := made(t, n)
		if len(d.Pages) != n || len(d.Pending) > 0 || !device.Valid(d) {
			t.Errorf("%d pages: %v", n, d)
		}
		for _, b := range d.Pages {
			if !bytes.Equal(b, page()) {
				t.Errorf("a page is %v", b)
			}
		}
	}
	for _, n := range []int{0, -1, api.MaxPages + 1, math.MinInt, math.MaxInt} {
		if d, e := device.New(n); len(d.Pages) > 0 || e != api.ErrLimit {
			t.Errorf("%d pages: %v, %d", n, d, e)
		}
	}
	if !device.Valid(api.Device{Pages: [][]byte{page()}, Pending: slices.Repeat([]api.Write{{Bytes: page()}}, api.MaxPending)}) {
		t.Error("a device with as many pending writes as it may have is not valid")
	}
}

// TestErrors tests the errors of P24.2, with the device as it is.
func TestErrors(t *testing.T) {
	for i, d := range badDevices() {
		if device.Valid(d) {
			t.Errorf("%d: a device is valid", i)
		}
		if b, e := device.Read(d, 99); len(b) > 0 || e != api.ErrState {
			t.Errorf("%d: Read is %v, %d", i, b, e)
		}
		same := func(x api.Device, e api.Errno) {
			if !reflect.DeepEqual(x, d) || e != api.ErrState {
				t.Errorf("%d: the error is %d", i, e)
			}
		}
		same(device.Write(d, 99, make([]byte, 65)))
		same(device.Flush(d))
		same(device.Crash(d, []int{1}))
	}
	d := made(t, 2)
	full := copies.Device(d)
	full.Pending = slices.Repeat([]api.Write{{Bytes: page(1)}}, api.MaxPending)
	for i, v := range []struct {
		d    api.Device
		page int
		b    []byte
		e    api.Errno
	}{
		{full, 2, make([]byte, 65), api.ErrPage},
		{full, -1, nil, api.ErrPage},
		{full, 1, make([]byte, 65), api.ErrLength},
		{full, 1, make([]byte, 64), api.ErrFull},
	} {
		if x, e := device.Write(v.d, v.page, v.b); !reflect.DeepEqual(x, v.d) || e != v.e {
			t.Errorf("%d: Write is %d", i, e)
		}
	}
	for _, p := range []int{2, -1, math.MinInt} {
		if b, e := device.Read(d, p); len(b) > 0 || e != api.ErrPage {
			t.Errorf("Read of the page %d is %v, %d", p, b, e)
		}
	}
}

// TestWrites tests P24.2 by an example, and that arguments stay as they are.
func TestWrites(t *testing.T) {
	d := made(t, 2)
	b := []byte{1, 2}
	one, e := device.Write(d, 1, b)
	one = must(t, one, e)
	b[0] = 9
	two, e := device.Write(one, 1, []byte{5})
	two = must(t, two, e)
	read := func(d api.Device, p int, want ...byte) {
		t.Helper()
		if b, e := device.Read(d, p); !bytes.Equal(b, page(want...)) || e != api.OK {
			t.Errorf("the page %d is %v, %d", p, b, e)
		}
	}
	read(d, 1)
	read(one, 1, 1, 2)
	read(two, 1, 5)
	read(two, 0)
	flushed, e := device.Flush(two)
	flushed = must(t, flushed, e)
	read(flushed, 1, 5)
	crashed, e := device.Crash(one, []int{1})
	crashed = must(t, crashed, e)
	read(crashed, 1, 1, 0)
	if len(flushed.Pending) > 0 || len(crashed.Pending) > 0 || len(two.Pending) != 2 || !bytes.Equal(two.Pages[1], page()) {
		t.Error("pending writes are wrong")
	}
	for keep, want := range map[int][]byte{-5: {5, 0}, 0: {5, 0}, 1: {1, 0}, 2: {1, 2}, 64: {1, 2}, math.MaxInt: {1, 2}, math.MinInt: {5, 0}} {
		again, e := device.Write(flushed, 1, []byte{1, 2})
		again = must(t, again, e)
		again, e = device.Crash(again, []int{keep})
		read(must(t, again, e), 1, want...)
	}
}

// TestCrash tests P24.2 with many writes.
func TestCrash(t *testing.T) {
	r := rand.New(rand.NewSource(38))
	for range 200 {
		d := made(t, 1+r.Intn(4))
		for i := range d.Pages {
			r.Read(d.Pages[i])
		}
		want := copies.Device(d)
		after := copies.Device(d)
		keep := make([]int, r.Intn(8))
		for i := range keep {
			keep[i] = r.Intn(90) - 10
		}
		for i := range r.Intn(9) {
			b := make([]byte, r.Intn(65))
			r.Read(b)
			p := r.Intn(len(d.Pages))
			var e api.Errno
			d, e = device.Write(d, p, b)
			d = must(t, d, e)
			after.Pages[p] = page(b...)
			if i < len(keep) {
				copy(want.Pages[p], page(b...)[:min(max(keep[i], 0), 64)])
			}
			if b, e := device.Read(d, p); !bytes.Equal(b, after.Pages[p]) || e != api.OK {
				t.Fatalf("Read is %v, %d", b, e)
			}
		}
		if x, e := device.Crash(d, keep); !reflect.DeepEqual(x.Pages, want.Pages) || len(x.Pending) > 0 || e != api.OK {
			t.Fatalf("Crash is %v, %d, want %v", x, e, want)
		}
		if x, e := device.Flush(d); !reflect.DeepEqual(x.Pages, after.Pages) || len(x.Pending) > 0 || e != api.OK {
			t.Fatalf("Flush is %v, %d, want %v", x, e, after)
		}
		if x, _ := device.Crash(d, slices.Repeat([]int{64}, 9)); !reflect.DeepEqual(x.Pages, after.Pages) {
			t.Fatal("a crash that keeps everything is no flush")
		}
	}
}
