package heap_test

import (
	"bytes"
	"math/rand"
	"reflect"
	"slices"
	"testing"

	"shapesearch/api"
	"shapesearch/codec"
	"shapesearch/copies"
	"shapesearch/device"
	"shapesearch/heap"
)

func same(a, b [][]byte) bool { return slices.EqualFunc(a, b, bytes.Equal) }

func random(r *rand.Rand, most int) [][]byte {
	l := make([][]byte, r.Intn(5))
	for i := range l {
		l[i] = make([]byte, r.Intn(most))
		r.Read(l[i])
	}
	return l
}

func made(pages int) api.Device {
	d, _ := device.New(pages)
	return d
}

// TestEncode tests P25.1.
func TestEncode(t *testing.T) {
	for i, v := range []struct {
		l    [][]byte
		want []byte
	}{
		{nil, []byte{0}},
		{[][]byte{nil, {7, 8}, {}}, []byte{6, 0, 4, 7, 8, 0}},
	} {
		if b, e := heap.Encode(v.l); !bytes.Equal(b, v.want) || e != api.OK {
			t.Errorf("%d: Encode is %v, %d", i, b, e)
		}
	}
	r := rand.New(rand.NewSource(39))
	for range 200 {
		l := random(r, 200)
		b, _ := heap.Encode(l)
		if m, e := heap.Decode(b); !same(l, m) || e != api.OK {
			t.Fatalf("%v is read as %v, %d", l, m, e)
		}
	}
	most := make([][]byte, 4096)
	if b, e := heap.Encode(most); len(b) != 2+4096 || e != api.OK {
		t.Errorf("4096 records: %d bytes, %d", len(b), e)
	}
	all, _ := heap.Encode(most)
	if l, e := heap.Decode(all); len(l) != 4096 || e != api.OK {
		t.Errorf("4096 records are read as %d, %d", len(l), e)
	}
	if b, e := heap.Encode(append(most, nil)); len(b) > 0 || e != api.ErrLimit {
		t.Errorf("4097 records: %d bytes, %d", len(b), e)
	}
	// The number of records and the length of this one have 1 and 3 bytes.
	long := make([]byte, 1<<20-4+1)
	b, e := heap.Encode([][]byte{long[1:]})
	if len(b) != 1<<20 || e != api.OK {
		t.Errorf("a long record: %d bytes, %d", len(b), e)
	}
	if l, e := heap.Decode(b); !same(l, [][]byte{long[1:]}) || e != api.OK {
		t.Errorf("a long record: %d", e)
	}
	if b, e := heap.Encode([][]byte{long}); len(b) > 0 || e != api.ErrLimit {
		t.Errorf("a record that is too long: %d bytes, %d", len(b), e)
	}
}

// TestDecode tests P25.1.
func TestDecode(t *testing.T) {
	many := append(codec.PutInt(nil, 4097), make([]byte, 4097)...)
	long := append(codec.PutInt([]byte{2}, 1<<20-3), make([]byte, 1<<20-3)...)
	for i, b := range [][]byte{
		nil, {1}, {128}, {0, 0}, {2}, {2, 2}, {2, 4, 7}, {2, 1}, {4, 0}, {2, 0, 0}, {2, 128, 0}, many, long,
		append([]byte{2}, codec.PutInt(nil, 1<<62)...), append([]byte{2}, codec.PutInt(nil, -1<<63)...), codec.PutInt(nil, 1<<62),
	} {
		if l, e := heap.Decode(b); len(l) > 0 || e != api.ErrForm {
			t.Errorf("%d: Decode has %d records, %d", i, len(l), e)
		}
	}
	if l, e := heap.Decode(many[:2]); len(l) > 0 || e != api.ErrForm {
		t.Errorf("Decode is %v, %d", l, e)
	}
}

// TestArea tests P25.1.
func TestArea(t *testing.T) {
	for pages, want := range map[int]int{1: 0, 3: 0, 4: 1, 5: 1, 6: 2, 7: 2, 256: 127} {
		if n := heap.Area(made(pages)); n != want {
			t.Errorf("the area of %d pages is %d", pages, n)
		}
	}
	if n := heap.Area(api.Device{Pages: make([][]byte, 9)}); n != 0 {
		t.Errorf("the area of a device that is not valid is %d", n)
	}
}

// rootPage is a root by its definition.
func rootPage(v, n int) []byte {
	b := make([]byte, 64)
	b[0], b[63] = byte(1+v%250), byte(1+v%250)
	copy(b[1:], []byte{byte(v >> 24), byte(v >> 16), byte(v >> 8), byte(v), byte(n >> 24), byte(n >> 16), byte(n >> 8), byte(n)})
	return b
}

// TestRoots tests what P25.2 says of roots.
func TestRoots(t *testing.T) {
	with := func(zero, one []byte, pages int) api.Device {
		d := made(pages)
		copy(d.Pages[0], zero)
		copy(d.Pages[1], one)
		// The records of even versions are one with a 5, those of odd ones one with a 6.
		copy(d.Pages[2], []byte{2, 2, 5})
		copy(d.Pages[2+heap.Area(d)], []byte{2, 2, 6})
		return d
	}
	changed := func(b []byte, at int) []byte {
		c := slices.Clone(b)
		c[at]++
		return c
	}
	for i, v := range []struct {
		d       api.Device
		records [][]byte
		version int
		e       api.Errno
	}{
		{with(nil, nil, 6), nil, 0, api.ErrEmpty},
		{with(nil, rootPage(1, 3), 6), [][]byte{{6}}, 1, api.OK},
		{with(rootPage(2, 3), rootPage(1, 3), 6), [][]byte{{5}}, 2, api.OK},
		{with(rootPage(2, 3), rootPage(3, 3), 7), [][]byte{{6}}, 3, api.OK},
		{with(rootPage(250, 3), rootPage(1<<31-1, 3), 7), [][]byte{{6}}, 1<<31 - 1, api.OK},
		{with(rootPage(0, 3), nil, 6), nil, 0, api.ErrEmpty},
		{with(rootPage(1<<31, 3), nil, 6), nil, 0, api.ErrEmpty},
		{with(rootPage(1, 3), rootPage(2, 3), 6), nil, 0, api.ErrEmpty},
		{with(rootPage(2, 3), changed(rootPage(3, 3), 0), 6), [][]byte{{5}}, 2, api.OK},
		{with(rootPage(2, 3), changed(rootPage(3, 3), 63), 6), [][]byte{{5}}, 2, api.OK},
		{with(rootPage(2, 3), changed(rootPage(3, 3), 30), 6), [][]byte{{5}}, 2, api.OK},
		{with(rootPage(2, 3), changed(rootPage(3, 3), 4), 6), [][]byte{{5}}, 2, api.OK},
		{with(rootPage(2, 3), rootPage(3, 129), 6), [][]byte{{5}}, 2, api.OK},
		{with(rootPage(2, 3), rootPage(3, 1<<32-1), 6), [][]byte{{5}}, 2, api.OK},
		{with(rootPage(2, 3), rootPage(3, 128), 6), nil, 3, api.ErrForm},
		{with(rootPage(2, 3), rootPage(3, 2), 6), nil, 3, api.ErrForm},
		{with(rootPage(2, 3), rootPage(3, 0), 6), nil, 3, api.ErrForm},
		{with(nil, nil, 3), nil, 0, api.ErrState},
		{api.Device{}, nil, 0, api.ErrState},
	} {
		if l, version, e := heap.Load(v.d); !same(l, v.records) || version != v.version || e != v.e {
			t.Errorf("%d: Load is %v, %d, %d", i, l, version, e)
		}
	}
	// Pending writes count, for roots and for areas.
	d := with(rootPage(2, 3), nil, 6)
	d, _ = device.Write(d, 2, []byte{2, 2, 9})
	if l, version, e := heap.Load(d); !same(l, [][]byte{{9}}) || version != 2 || e != api.OK {
		t.Errorf("with a pending write to the area: %v, %d, %d", l, version, e)
	}
	d, _ = device.Write(d, 1, rootPage(3, 3))
	if l, version, e := heap.Load(d); !same(l, [][]byte{{6}}) || version != 3 || e != api.OK {
		t.Errorf("with a pending write to a root: %v, %d, %d", l, version, e)
	}
}

// TestPlan tests P25.3.
func TestPlan(t *testing.T) {
	d := made(8)
	records := [][]byte{make([]byte, 100)}
	records[0][99] = 7
	b, _ := heap.Encode(records)
	page := func(b ...byte) []byte { return append(slices.Clone(b), make([]byte, 64-len(b))...) }
	want := []api.Action{
		{Write: api.Write{Page: 5, Bytes: page(b[:64]...)}}, {Write: api.Write{Page: 6, Bytes: page(b[64:]...)}}, {Flush: true},
		{Write: api.Write{Page: 1, Bytes: rootPage(1, len(b))}}, {Flush: true},
	}
	plan, e := heap.Plan(d, records)
	if !reflect.DeepEqual(plan, want) || e != api.OK {
		t.Errorf("the plan is %v, %d", plan, e)
	}
	d, e = heap.Commit(d, records)
	if e != api.OK {
		t.Fatal(e)
	}
	almost := made(40)
	copy(almost.Pages[0], rootPage(1<<31-2, 1))
	long := [][]byte{make([]byte, 1000)}
	long[0][999] = 3
	x, e := heap.Commit(almost, long)
	if l, version, loaded := heap.Load(x); !same(l, long) || version != 1<<31-1 || e != api.OK || loaded != api.OK {
		t.Errorf("the last version is %d, %d, %d", version, e, loaded)
	}
	want = []api.Action{{Write: api.Write{Page: 2, Bytes: page(0)}}, {Flush: true}, {Write: api.Write{Page: 0, Bytes: rootPage(2, 1)}}, {Flush: true}}
	if plan, e := heap.Plan(d, nil); !reflect.DeepEqual(plan, want) || e != api.OK {
		t.Errorf("the second plan is %v, %d", plan, e)
	}
}

// TestPlanErrors tests the errors of P25.3.
func TestPlanErrors(t *testing.T) {
	many := make([][]byte, 4097)
	pending, _ := device.Write(made(8), 7, nil)
	last := made(8)
	copy(last.Pages[1], rootPage(1<<31-1, 1))
	for i, v := range []struct {
		d       api.Device
		records [][]byte
		e       api.Errno
	}{
		{made(3), many, api.ErrState},
		{api.Device{}, nil, api.ErrState},
		{pending, many, api.ErrState},
		{last, many, api.ErrLimit},
		{last, nil, api.ErrFull},
		// Of 192 bytes, one is the number of records, and two are the number of the bytes of the record.
		{made(8), [][]byte{make([]byte, 190)}, api.ErrFull},
		{made(8), [][]byte{make([]byte, 189)}, api.OK},
	} {
		if l, e := heap.Plan(v.d, v.records); e != v.e || e != api.OK && len(l) > 0 {
			t.Errorf("%d: Plan is %v, %d", i, l, e)
		}
		if d, e := heap.Commit(v.d, v.records); e != v.e || e != api.OK && !reflect.DeepEqual(d, v.d) {
			t.Errorf("%d: Commit is %d", i, e)
		}
	}
	d := made(8)
	for i, a := range []api.Action{{Write: api.Write{Page: 8}}, {Write: api.Write{Page: -1}}} {
		if x, e := heap.Apply(d, a); !reflect.DeepEqual(x, d) || e != api.ErrPage {
			t.Errorf("%d: Apply is %d", i, e)
		}
	}
	if x, e := heap.Apply(d, api.Action{Flush: true, Write: api.Write{Page: 8}}); !reflect.DeepEqual(x, d) || e != api.OK {
		t.Errorf("a flush is %d", e)
	}
}

// TestCommit tests P25.3, with crashes between any steps, again and again.
func TestCommit(t *testing.T) {
	r := rand.New(rand.NewSource(40))
	for range 60 {
		d := made(4 + 2*r.Intn(20))
		var records [][]byte
		version := 0
		for range 12 {
			next := random(r, 30)
			plan, e := heap.Plan(d, next)
			if e == api.ErrFull {
				continue
			}
			stop := r.Intn(len(plan) + 1)
			x := copies.Device(d)
			for _, a := range plan[:stop] {
				x, e = heap.Apply(x, a)
			}
			keep := make([]int, r.Intn(len(plan)+1))
			for i := range keep {
				keep[i] = r.Intn(80) - 8
			}
			x, e = device.Crash(x, keep)
			l, v, loaded := heap.Load(x)
			isNew := v == version+1 && loaded == api.OK && same(l, next)
			isOld := v == version && (version == 0 && loaded == api.ErrEmpty || loaded == api.OK && same(l, records))
			if !isNew && !isOld || e != api.OK || stop == len(plan) && !isNew || stop < len(plan)-1 && !isOld {
				t.Fatalf("behind a crash at %d of %d: %v, %d, %d", stop, len(plan), l, v, loaded)
			}
			if d = x; isNew {
				records, version = next, v
			}
			if r.Intn(2) == 0 {
				continue
			}
			d, e = heap.Commit(d, next)
			if l, v, loaded := heap.Load(d); !same(l, next) || v != version+1 || e != api.OK || loaded != api.OK {
				t.Fatalf("behind a commit: %v, %d, %d, %d", l, v, e, loaded)
			}
			records, version = next, version+1
		}
	}
}
