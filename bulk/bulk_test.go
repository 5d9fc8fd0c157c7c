package bulk_test

import (
	"math/rand"
	"reflect"
	"testing"

	"shapesearch/api"
	"shapesearch/bulk"
	"shapesearch/run"
	"shapesearch/tree"
)

var (
	scheme = api.Scheme{Measure: api.Measure{Kind: api.KindEuclid}, Length: 4, Pieces: 2, Cuts: []int{-5, 0, 5}}
	bad    = api.Scheme{Measure: api.Measure{Kind: api.KindEuclid}, Length: 4, Pieces: 5}
)

func random(r *rand.Rand, series, n int) api.Store {
	var st api.Store
	for range series {
		l := make([]int, n)
		for i := range l {
			l[i] = r.Intn(31) - 15
			if r.Intn(20) == 0 {
				l[i] = api.Missing
			}
		}
		st.Series = append(st.Series, l)
	}
	return st
}

// TestLoad tests P28.1.
func TestLoad(t *testing.T) {
	r := rand.New(rand.NewSource(48))
	for range 30 {
		st := random(r, r.Intn(4), r.Intn(60))
		capacity, memory, fan := 1+r.Intn(9), 1+r.Intn(20), 2+r.Intn(3)
		x, work, e := bulk.Load(scheme, capacity, st, memory, fan)
		if e != api.OK {
			t.Fatal(e)
		}
		l, _ := run.Of(scheme, st)
		y, _ := tree.New(scheme, capacity)
		for _, i := range r.Perm(len(l)) {
			y, _ = tree.Insert(y, l[i])
		}
		if _, want, _ := run.Sort(scheme, l, memory, fan); !reflect.DeepEqual(x, y) || work != want {
			t.Fatalf("Load is %v, %v, want %v, %v", x, work, y, want)
		}
	}
	wrong := api.Store{Series: [][]int{{1001}}}
	for i, v := range []struct {
		s             api.Scheme
		capacity      int
		st            api.Store
		memory, fan   int
		e             api.Errno
		leaves, nodes int
	}{
		{scheme, 4, api.Store{}, 1, 2, api.OK, 1, 1},
		{bad, 0, wrong, 0, 0, api.ErrWord, 0, 0},
		{scheme, 0, wrong, 0, 0, api.ErrSample, 0, 0},
		{scheme, 0, api.Store{Series: make([][]int, 17)}, 0, 0, api.ErrStore, 0, 0},
		{scheme, 0, api.Store{}, 0, 0, api.ErrCount, 0, 0},
		{scheme, 65, api.Store{}, 0, 0, api.ErrCount, 0, 0},
		{scheme, 64, api.Store{}, 0, 2, api.ErrRange, 0, 0},
		{scheme, 64, api.Store{}, 1, 9, api.ErrRange, 0, 0},
	} {
		x, work, e := bulk.Load(v.s, v.capacity, v.st, v.memory, v.fan)
		if len(x.Nodes) != v.nodes || work != (api.Work{}) || e != v.e {
			t.Errorf("%d: Load is %v, %v, %d", i, x, work, e)
		}
		if leaves, most := bulk.Fill(x); leaves != v.leaves || most != 0 {
			t.Errorf("%d: Fill is %d, %d", i, leaves, most)
		}
	}
}

// TestAdd tests P28.2.
func TestAdd(t *testing.T) {
	r := rand.New(rand.NewSource(49))
	for range 30 {
		st := random(r, 2, 10+r.Intn(50))
		cut := r.Intn(len(st.Series[1]) + 1)
		part := api.Store{Series: [][]int{st.Series[0], st.Series[1][:cut]}}
		whole, _, _ := bulk.Load(scheme, 3, st, 16, 4)
		x, _, _ := bulk.Load(scheme, 3, part, 16, 4)
		known := map[api.Place]bool{}
		for _, e := range tree.Entries(x) {
			known[e.Place] = true
		}
		var more []api.Entry
		for _, e := range tree.Entries(whole) {
			if !known[e.Place] {
				more = append(more, e)
			}
		}
		if y, e := bulk.Add(x, more); !reflect.DeepEqual(y, whole) || e != api.OK {
			t.Fatalf("Add is %v, %d", y, e)
		}
		if old := tree.Entries(x); len(old) > 0 {
			if y, e := bulk.Add(x, old[r.Intn(len(old)):]); !reflect.DeepEqual(y, x) || e != api.ErrTwice {
				t.Fatalf("Add again is %d", e)
			}
		}
	}
}

// TestAddErrors tests the errors of P28.2.
func TestAddErrors(t *testing.T) {
	var l []api.Entry
	for i := range api.MaxEntries {
		l = append(l, api.Entry{Word: api.Word{Symbols: []int{0, 0}, Bits: []int{4, 4}}, Place: api.Place{Series: 1, Start: i}})
	}
	first, last := l[0], l[1999]
	first.Place.Series, last.Place.Series = 0, 2
	full, _ := tree.Of(scheme, 9, l)
	broken := full
	broken.Capacity = 10
	broken.Nodes = broken.Nodes[1:]
	for i, v := range []struct {
		t api.Tree
		l []api.Entry
		e api.Errno
	}{
		{broken, []api.Entry{{}}, api.ErrTree},
		{api.Tree{}, []api.Entry{{}}, api.ErrWord},
		{full, []api.Entry{{}}, api.ErrOrder},
		{full, []api.Entry{last, first}, api.ErrOrder},
		{full, []api.Entry{first, l[9], last}, api.ErrTwice},
		{full, l, api.ErrTwice},
		{full, []api.Entry{first, last}, api.ErrLimit},
		{full, nil, api.OK},
	} {
		if y, e := bulk.Add(v.t, v.l); !reflect.DeepEqual(y, v.t) || e != v.e {
			t.Errorf("%d: Add is %d", i, e)
		}
	}
	less, _ := tree.Of(scheme, 9, l[:1999])
	if y, e := bulk.Add(less, []api.Entry{last}); len(tree.Entries(y)) != api.MaxEntries || e != api.OK {
		t.Errorf("as many entries as a tree may have: %d", e)
	}
	if y, e := bulk.Add(less, []api.Entry{first, last}); !reflect.DeepEqual(y, less) || e != api.ErrLimit {
		t.Errorf("one more: %d", e)
	}
}

// TestFill tests P28.3.
func TestFill(t *testing.T) {
	r := rand.New(rand.NewSource(50))
	for range 50 {
		x, _, _ := bulk.Load(scheme, 1+r.Intn(9), random(r, 2, r.Intn(60)), 16, 4)
		leaves, most := 0, 0
		for _, n := range x.Nodes {
			if n.Left < 0 {
				leaves++
				most = max(most, len(n.Entries))
			}
		}
		if a, b := bulk.Fill(x); a != leaves || b != most {
			t.Fatalf("Fill is %d, %d", a, b)
		}
		x.Nodes = append(x.Nodes, api.Node{})
		if a, b := bulk.Fill(x); a != 0 || b != 0 {
			t.Fatalf("Fill of a tree that is not valid is %d, %d", a, b)
		}
	}
}
