package tree_test

import (
	"math"
	"math/rand"
	"reflect"
	"slices"
	"testing"

	"shapesearch/api"
	"shapesearch/copies"
	"shapesearch/run"
	"shapesearch/tree"
	"shapesearch/word"
)

var (
	scheme = api.Scheme{Measure: api.Measure{Kind: api.KindEuclid}, Length: 4, Pieces: 2, Cuts: []int{0, 10}}
	bad    = api.Scheme{Measure: api.Measure{Kind: api.KindEuclid}, Length: 4, Pieces: 5}
)

func entry(a, b, series, start int) api.Entry {
	return api.Entry{Word: api.Word{Symbols: []int{a, b}, Bits: []int{4, 4}}, Place: api.Place{Series: series, Start: start}}
}

func w(l ...int) api.Word {
	var x api.Word
	for i := 0; i < len(l); i += 2 {
		x.Symbols, x.Bits = append(x.Symbols, l[i]), append(x.Bits, l[i+1])
	}
	return x
}

// random returns different entries in order; with a small spread, many have the same words.
func random(t *testing.T, r *rand.Rand, n, spread int) []api.Entry {
	var l []api.Entry
	for i := range n {
		l = append(l, entry(r.Intn(spread), r.Intn(spread), r.Intn(3), i))
	}
	l, _, e := run.Sort(scheme, l, 64, 8)
	if e != api.OK {
		t.Fatal(e)
	}
	return l
}

func of(t *testing.T, capacity int, l []api.Entry) api.Tree {
	t.Helper()
	x, e := tree.Of(scheme, capacity, l)
	if e != api.OK {
		t.Fatal(e)
	}
	return x
}

// equal compares trees, with nil and empty slices as equivalent.
func equal(a, b api.Tree) bool {
	return slices.Equal(a.Scheme.Cuts, b.Scheme.Cuts) && a.Scheme.Length == b.Scheme.Length && a.Capacity == b.Capacity && slices.EqualFunc(a.Nodes, b.Nodes, func(a, b api.Node) bool {
		a.Entries, b.Entries = append([]api.Entry{}, a.Entries...), append([]api.Entry{}, b.Entries...)
		return reflect.DeepEqual(a, b)
	})
}

// slow builds nodes by the definition, with Belongs for every entry.
func slow(capacity int, v api.Word, l []api.Entry, from int) []api.Node {
	n := api.Node{Word: v, Left: -1, Right: -1, Entries: l}
	least := slices.Min(v.Bits)
	if len(l) <= capacity || least == 4 {
		return []api.Node{n}
	}
	n.Entries, n.Piece = nil, slices.Index(v.Bits, least)
	a, b, _ := word.Split(scheme, v, n.Piece)
	var left, right []api.Entry
	for _, e := range l {
		if word.Belongs(scheme, a, e.Word) {
			left = append(left, e)
		}
		if word.Belongs(scheme, b, e.Word) {
			right = append(right, e)
		}
	}
	n.Left = from + 1
	below := slow(capacity, a, left, n.Left)
	n.Right = n.Left + len(below)
	return slices.Concat([]api.Node{n}, below, slow(capacity, b, right, n.Right))
}

// TestOf tests P27.1.
func TestOf(t *testing.T) {
	l := []api.Entry{entry(0, 0, 0, 0), entry(1, 1, 0, 1), entry(8, 0, 0, 2)}
	want := api.Tree{Scheme: scheme, Capacity: 2, Nodes: []api.Node{
		{Word: w(0, 0, 0, 0), Left: 1, Right: 2}, {Word: w(0, 1, 0, 0), Left: -1, Right: -1, Entries: l[:2]}, {Word: w(1, 1, 0, 0), Left: -1, Right: -1, Entries: l[2:]},
	}}
	if x := of(t, 2, l); !equal(x, want) {
		t.Errorf("the tree is %v", x)
	}
	if x, e := tree.New(scheme, 5); !equal(x, api.Tree{Scheme: scheme, Capacity: 5, Nodes: []api.Node{{Word: w(0, 0, 0, 0), Left: -1, Right: -1}}}) || e != api.OK {
		t.Errorf("the tree without entries is %v, %d", x, e)
	}
	r := rand.New(rand.NewSource(44))
	for range 200 {
		l, capacity := random(t, r, r.Intn(120), 1+r.Intn(16)), 1+r.Intn(9)
		x := of(t, capacity, l)
		if nodes := slow(capacity, w(0, 0, 0, 0), l, 0); !equal(x, api.Tree{Scheme: scheme, Capacity: capacity, Nodes: nodes}) {
			t.Fatalf("the tree of %v is %v, want %v", l, x, nodes)
		}
	}
	full := of(t, 1, random(t, r, api.MaxEntries, 1))
	if len(full.Nodes) != 17 || tree.Check(full) != api.OK || tree.Depth(full) != 9 {
		t.Errorf("a tree of equal words has %d nodes, the depth %d and the error %d", len(full.Nodes), tree.Depth(full), tree.Check(full))
	}
}

// TestOfErrors tests the errors of P27.1.
func TestOfErrors(t *testing.T) {
	many := make([]api.Entry, api.MaxEntries+1)
	for i, v := range []struct {
		s        api.Scheme
		capacity int
		l        []api.Entry
		e        api.Errno
	}{
		{bad, 0, many, api.ErrWord},
		{scheme, 0, many, api.ErrCount},
		{scheme, 65, many, api.ErrCount},
		{scheme, math.MinInt, many, api.ErrCount},
		{scheme, 1, many, api.ErrLimit},
		{scheme, 1, many[:1], api.ErrOrder},
		{scheme, 1, []api.Entry{entry(1, 0, 0, 0), entry(0, 0, 0, 0)}, api.ErrOrder},
		{scheme, 1, []api.Entry{entry(1, 0, 0, 0), entry(1, 0, 0, 0)}, api.ErrOrder},
	} {
		if x, e := tree.Of(v.s, v.capacity, v.l); !reflect.DeepEqual(x, api.Tree{}) || e != v.e {
			t.Errorf("%d: Of is %v, %d", i, x, e)
		}
		if v.e != api.ErrWord && v.e != api.ErrCount {
			continue
		}
		if x, e := tree.New(v.s, v.capacity); !reflect.DeepEqual(x, api.Tree{}) || e != v.e {
			t.Errorf("%d: New is %v, %d", i, x, e)
		}
	}
}

// damaged returns trees that are not valid, with their errors.
func damaged(t *testing.T) map[string]api.Tree {
	l := random(t, rand.New(rand.NewSource(45)), 40, 16)
	all := map[string]api.Tree{"zero": {}}
	change := func(name string, f func(x *api.Tree)) {
		x := of(t, 3, l)
		f(&x)
		all[name] = x
	}
	leaf := func(x *api.Tree) *api.Node {
		return &x.Nodes[slices.IndexFunc(x.Nodes, func(n api.Node) bool { return len(n.Entries) > 1 })]
	}
	change("no nodes", func(x *api.Tree) { x.Nodes = nil })
	change("a node more", func(x *api.Tree) { x.Nodes = append(x.Nodes, x.Nodes[len(x.Nodes)-1]) })
	change("a node less", func(x *api.Tree) { x.Nodes = x.Nodes[:len(x.Nodes)-1] })
	change("a circle", func(x *api.Tree) { x.Nodes[0].Left = 0 })
	change("a child that is none", func(x *api.Tree) { x.Nodes[0].Right = math.MaxInt })
	change("another piece", func(x *api.Tree) { x.Nodes[0].Piece = 1 })
	change("another symbol", func(x *api.Tree) { x.Nodes[1].Word.Symbols[0] = 1 })
	change("other bits", func(x *api.Tree) { x.Nodes[1].Word.Bits = nil })
	change("entries out of order", func(x *api.Tree) { slices.Reverse(leaf(x).Entries) })
	change("an entry twice", func(x *api.Tree) { leaf(x).Entries[1] = leaf(x).Entries[0] })
	change("an entry less", func(x *api.Tree) { x.Capacity = 2 })
	change("another capacity", func(x *api.Tree) { x.Capacity = 40 })
	change("an entry that is not valid", func(x *api.Tree) { leaf(x).Entries[0].Place.Start = -1 })
	change("an entry in a node that is split", func(x *api.Tree) {
		x.Nodes[0].Entries = x.Nodes[len(x.Nodes)-1].Entries
		x.Nodes[len(x.Nodes)-1].Entries = nil
	})
	change("a piece of a leaf", func(x *api.Tree) { leaf(x).Piece = 1 })
	change("a scheme that is not valid", func(x *api.Tree) { x.Scheme = bad })
	change("a capacity that is not valid", func(x *api.Tree) { x.Capacity = 0 })
	change("too many entries", func(x *api.Tree) { leaf(x).Entries = make([]api.Entry, 3000) })
	return all
}

// TestCheck tests P27.2, and what P27.3 says of trees that are not valid.
func TestCheck(t *testing.T) {
	for name, x := range damaged(t) {
		want := map[string]api.Errno{"zero": api.ErrWord, "a scheme that is not valid": api.ErrWord, "a capacity that is not valid": api.ErrCount}[name]
		if want == api.OK {
			want = api.ErrTree
		}
		if e := tree.Check(x); e != want {
			t.Errorf("%s: the error is %d", name, e)
		}
		if l := tree.Entries(x); len(l) > 0 || tree.Depth(x) != 0 {
			t.Errorf("%s: there are %d entries", name, len(l))
		}
		if at, e := tree.Leaf(x, api.Word{}); at != 0 || e != want {
			t.Errorf("%s: Leaf is %d, %d", name, at, e)
		}
		if y, e := tree.Insert(x, api.Entry{}); !reflect.DeepEqual(y, x) || e != want {
			t.Errorf("%s: Insert is %d", name, e)
		}
		if y, e := tree.Remove(x, api.Entry{}); !reflect.DeepEqual(y, x) || e != want {
			t.Errorf("%s: Remove is %d", name, e)
		}
	}
	// A list in which symbols and bits are nil is as good as an empty one, but no word of a tree is empty.
	x := of(t, 3, nil)
	x.Nodes[0].Entries = []api.Entry{}
	if e := tree.Check(x); e != api.OK {
		t.Errorf("an empty list of entries: %d", e)
	}
}

// TestEntries tests P27.2 and P27.3.
func TestEntries(t *testing.T) {
	r := rand.New(rand.NewSource(46))
	for range 60 {
		l, capacity := random(t, r, 1+r.Intn(60), 1+r.Intn(16)), 1+r.Intn(6)
		x := of(t, capacity, l)
		got := tree.Entries(x)
		if !reflect.DeepEqual(got, l) {
			t.Fatalf("the entries are %v, want %v", got, l)
		}
		got[0].Word.Symbols[0] = 99
		if tree.Check(x) != api.OK {
			t.Fatal("the entries share memory with the tree")
		}
		for _, e := range l {
			at, errno := tree.Leaf(x, e.Word)
			if errno != api.OK || !slices.ContainsFunc(x.Nodes[at].Entries, func(o api.Entry) bool { return reflect.DeepEqual(o, e) }) {
				t.Fatalf("the leaf of %v is %d, %d", e, at, errno)
			}
		}
		if depth := longest(x, 0); tree.Depth(x) != depth {
			t.Fatalf("the depth is %d, want %d", tree.Depth(x), depth)
		}
	}
}

func longest(x api.Tree, at int) int {
	if n := x.Nodes[at]; n.Left >= 0 {
		return 1 + max(longest(x, n.Left), longest(x, n.Right))
	}
	return 1
}

// TestInsert tests P27.3: the tree depends on the set of its entries alone.
func TestInsert(t *testing.T) {
	r := rand.New(rand.NewSource(47))
	for range 40 {
		l, capacity := random(t, r, 40, 1+r.Intn(16)), 1+r.Intn(6)
		x, _ := tree.New(scheme, capacity)
		kept := r.Intn(40)
		for _, i := range r.Perm(40) {
			before := copies.Tree(x)
			y, e := tree.Insert(x, l[i])
			if e != api.OK || !reflect.DeepEqual(x, before) {
				t.Fatalf("Insert is %d", e)
			}
			x = y
			if y, e := tree.Insert(x, l[i]); !reflect.DeepEqual(y, x) || e != api.ErrTwice {
				t.Fatalf("Insert again is %d", e)
			}
		}
		if !equal(x, of(t, capacity, l)) {
			t.Fatal("the tree depends on the order")
		}
		for _, i := range r.Perm(40) {
			if i < kept {
				continue
			}
			y, e := tree.Remove(x, l[i])
			if e != api.OK {
				t.Fatalf("Remove is %d", e)
			}
			x = y
			if y, e := tree.Remove(x, l[i]); !reflect.DeepEqual(y, x) || e != api.ErrPlace {
				t.Fatalf("Remove again is %d", e)
			}
		}
		if !equal(x, of(t, capacity, l[:kept])) {
			t.Fatal("the tree depends on entries that have gone")
		}
	}
	x := of(t, 3, random(t, r, api.MaxEntries, 16))
	for i, v := range []struct {
		e      api.Entry
		insert api.Errno
		remove api.Errno
	}{
		{api.Entry{}, api.ErrWord, api.ErrWord},
		{entry(16, 0, 0, 0), api.ErrWord, api.ErrWord},
		{entry(0, 0, -1, 0), api.ErrWord, api.ErrWord},
		{tree.Entries(x)[7], api.ErrTwice, api.OK},
		{entry(0, 0, 9, 9), api.ErrLimit, api.ErrPlace},
	} {
		if y, e := tree.Insert(x, v.e); e != v.insert || !reflect.DeepEqual(y, x) {
			t.Errorf("%d: Insert is %d", i, e)
		}
		if y, e := tree.Remove(x, v.e); e != v.remove || e != api.OK && !reflect.DeepEqual(y, x) {
			t.Errorf("%d: Remove is %d", i, e)
		}
	}
	for i, v := range []api.Word{{}, w(0, 3, 0, 4), w(16, 4, 0, 4), w(0, 4)} {
		if at, e := tree.Leaf(x, v); at != 0 || e != api.ErrWord {
			t.Errorf("%d: Leaf is %d, %d", i, at, e)
		}
	}
}
