package index_test

import (
	"bytes"
	"math/rand"
	"reflect"
	"slices"
	"testing"

	"shapesearch/api"
	"shapesearch/bulk"
	"shapesearch/codec"
	"shapesearch/device"
	"shapesearch/heap"
	"shapesearch/index"
	"shapesearch/tree"
)

func nums(l ...int) []byte {
	var b []byte
	for _, n := range l {
		b = codec.PutInt(b, n)
	}
	return b
}

func word(a, b int) api.Word { return api.Word{Symbols: []int{a, b}, Bits: []int{4, 4}} }

func scheme(r *rand.Rand) api.Scheme {
	m := []api.Measure{{Kind: 1}, {Kind: 2}, {Kind: 3}, {Kind: 4, Band: 7}, {Kind: 5, Gap: -9}}[r.Intn(5)]
	return api.Scheme{Measure: m, Length: 4, Pieces: 2, Cuts: [][]int{nil, {0}, {-5, 0, 5}}[r.Intn(3)]}
}

func random(r *rand.Rand, n int) api.Store {
	l := make([]int, n)
	for i := range l {
		l[i] = r.Intn(31) - 15
	}
	return api.Store{Series: [][]int{l}}
}

func load(t *testing.T, s api.Scheme, st api.Store) api.Tree {
	t.Helper()
	x, _, e := bulk.Load(s, 3, st, 16, 4)
	if e != api.OK {
		t.Fatal(e)
	}
	return x
}

func made(pages int) api.Device {
	d, _ := device.New(pages)
	return d
}

// equal compares trees, with nil and empty slices as equivalent.
func equal(a, b api.Tree) bool {
	ra, ea := index.Encode(a)
	rb, eb := index.Encode(b)
	return ea == api.OK && eb == api.OK && slices.EqualFunc(ra, rb, bytes.Equal) && len(a.Nodes) == len(b.Nodes)
}

// TestEncode tests P29.1.
func TestEncode(t *testing.T) {
	s := api.Scheme{Measure: api.Measure{Kind: 4, Band: 7}, Length: 4, Pieces: 2, Cuts: []int{-5, 300}}
	x, _ := tree.Of(s, 9, []api.Entry{{Word: word(1, 2), Place: api.Place{Series: 0, Start: 70}}, {Word: word(15, 2), Place: api.Place{Series: 3, Start: 2000}}})
	want := [][]byte{nums(4, 7, 0, 4, 2, 9, 2, -5, 300), nums(0, 70, 1, 2), nums(3, 2000, 15, 2)}
	if l, e := index.Encode(x); !slices.EqualFunc(l, want, bytes.Equal) || e != api.OK {
		t.Errorf("Encode is %v, %d", l, e)
	}
	if y, e := index.Decode(want); !reflect.DeepEqual(y, x) || e != api.OK {
		t.Errorf("Decode is %v, %d", y, e)
	}
	var l []api.Entry
	for i := range api.MaxEntries {
		l = append(l, api.Entry{Word: word(1, 2), Place: api.Place{Series: 1, Start: i}})
	}
	full, _ := tree.Of(s, 64, l)
	records, _ := index.Encode(full)
	if y, e := index.Decode(records); !reflect.DeepEqual(y, full) || e != api.OK {
		t.Errorf("a full tree is read as %d nodes, %d", len(y.Nodes), e)
	}
	empty, _ := tree.New(s, 1)
	if l, e := index.Encode(empty); len(l) != 1 || e != api.OK {
		t.Errorf("a tree without entries has the records %v, %d", l, e)
	}
	x.Nodes = nil
	if l, e := index.Encode(x); len(l) > 0 || e != api.ErrTree {
		t.Errorf("Encode of a tree that is not valid is %v, %d", l, e)
	}
	if l, e := index.Encode(api.Tree{}); len(l) > 0 || e != api.ErrWord {
		t.Errorf("Encode of nothing is %v, %d", l, e)
	}
}

// TestDecode tests P29.1.
func TestDecode(t *testing.T) {
	head := nums(1, 0, 0, 4, 2, 9, 2, -5, 300)
	for i, l := range [][][]byte{
		nil, {nil}, {head[:6]}, {head[:len(head)-1]}, {append(slices.Clone(head), 0)}, {nums(1, 0, 0, 4, 2, 9, 1, -5, 300)}, {nums(1, 0, 0, 4, 2, 9, 3, -5, 300)},
		{nums(1, 1, 0, 4, 2, 9, 0)}, {nums(1, 0, 0, 4, 5, 9, 0)}, {nums(1, 0, 0, 4, 2, 0, 0)}, {nums(1, 0, 0, 4, 2, 65, 0)}, {nums(1, 0, 0, 4, 2, 9, 2, 5, 5)},
		{append([]byte{128, 0}, head[1:]...)}, {head, nil}, {head, nums(1)}, {head, nums(1, 1)}, {head, nums(1, 1, 1)}, {head, nums(1, 1, 1, 16)}, {head, nums(1, 1, 1, 1, 1)},
		{head, nums(-1, 1, 1, 1)}, {head, nums(1, 2001, 1, 1)}, {head, nums(1, 1, 1, 1), nums(1, 1, 1, 1)}, {head, nums(1, 1, 1, 1), nums(1, 0, 1, 1)}, {head, {2, 2, 2, 128}},
		slices.Concat([][]byte{head}, slices.Repeat([][]byte{nums(1, 1, 1, 1)}, 2001)),
	} {
		if x, e := index.Decode(l); !reflect.DeepEqual(x, api.Tree{}) || e != api.ErrForm {
			t.Errorf("%d: Decode is %v, %d", i, x, e)
		}
	}
	r := rand.New(rand.NewSource(51))
	for range 40 {
		x := load(t, scheme(r), random(r, r.Intn(80)))
		l, _ := index.Encode(x)
		if y, e := index.Decode(l); !equal(x, y) || e != api.OK {
			t.Fatalf("%v is read as %v, %d", x, y, e)
		}
	}
}

// TestSave tests P29.2.
func TestSave(t *testing.T) {
	r := rand.New(rand.NewSource(52))
	for range 20 {
		s, d := scheme(r), made(64)
		st := random(r, 60)
		for _, n := range []int{r.Intn(60), r.Intn(60)} {
			x := load(t, s, api.Store{Series: [][]int{st.Series[0][:n]}})
			var e api.Errno
			if d, e = index.Save(d, x); e != api.OK {
				t.Fatal(e)
			}
			if y, e := index.Open(d); !equal(x, y) || e != api.OK {
				t.Fatalf("%v is opened as %v, %d", x, y, e)
			}
			known := map[api.Place]bool{}
			for _, e := range tree.Entries(x) {
				known[e.Place] = true
			}
			whole := load(t, s, st)
			more := slices.DeleteFunc(tree.Entries(whole), func(e api.Entry) bool { return known[e.Place] })
			grown, e := index.Grow(d, more)
			if y, opened := index.Open(grown); !equal(y, whole) || e != api.OK || opened != api.OK {
				t.Fatalf("Grow is %v, %d, %d", y, e, opened)
			}
		}
	}
}

// TestErrors tests the errors of P29.2, with the device as it is.
func TestErrors(t *testing.T) {
	r := rand.New(rand.NewSource(53))
	s := scheme(r)
	x := load(t, s, random(r, 50))
	entries := tree.Entries(x)
	saved, _ := index.Save(made(64), x)
	small, _ := heap.Commit(made(6), [][]byte{nums(1, 0, 0, 4, 2, 9, 0)})
	foreign, _ := heap.Commit(made(6), [][]byte{{1}})
	pending, _ := device.Write(saved, 9, nil)
	save := func(name string, d api.Device, x api.Tree, want api.Errno) {
		if y, e := index.Save(d, x); !reflect.DeepEqual(y, d) || e != want {
			t.Errorf("%s: Save is %d", name, e)
		}
	}
	save("no tree", api.Device{}, api.Tree{}, api.ErrWord)
	save("no device", api.Device{}, x, api.ErrState)
	save("pending writes", pending, x, api.ErrState)
	save("no room", made(6), x, api.ErrFull)
	grow := func(name string, d api.Device, l []api.Entry, want api.Errno) {
		if y, e := index.Grow(d, l); !reflect.DeepEqual(y, d) || e != want {
			t.Errorf("%s: Grow is %d", name, e)
		}
	}
	grow("no device", api.Device{}, nil, api.ErrState)
	grow("an empty device", made(6), nil, api.ErrEmpty)
	grow("other records", foreign, nil, api.ErrForm)
	grow("not sorted", saved, []api.Entry{{}}, api.ErrOrder)
	grow("twice", saved, entries[:1], api.ErrTwice)
	grow("no room", small, entries, api.ErrFull)
	grow("pending writes", pending, nil, api.ErrState)
	for want, d := range map[api.Errno]api.Device{api.ErrState: {}, api.ErrEmpty: made(6), api.ErrForm: foreign} {
		if y, e := index.Open(d); !reflect.DeepEqual(y, api.Tree{}) || e != want {
			t.Errorf("Open is %v, %d, want %d", y, e, want)
		}
	}
	if _, e := index.Open(pending); e != api.OK {
		t.Errorf("Open with a pending write is %d", e)
	}
}

// TestCrash tests the consequence that a crash at any step leaves the tree before, or the one behind it.
func TestCrash(t *testing.T) {
	r := rand.New(rand.NewSource(54))
	s := scheme(r)
	st := random(r, 40)
	before := load(t, s, api.Store{Series: [][]int{st.Series[0][:20]}})
	after := load(t, s, st)
	d, _ := index.Save(made(64), before)
	records, _ := index.Encode(after)
	plan, _ := heap.Plan(d, records)
	for stop := range len(plan) + 1 {
		x := d
		for _, a := range plan[:stop] {
			x, _ = heap.Apply(x, a)
		}
		keep := make([]int, len(plan))
		for i := range keep {
			keep[i] = r.Intn(65)
		}
		x, _ = device.Crash(x, keep)
		if y, e := index.Open(x); e != api.OK || !equal(y, before) && !equal(y, after) || stop == len(plan) && !equal(y, after) {
			t.Errorf("behind a crash at %d of %d: %d", stop, len(plan), e)
		}
	}
}
