package copies_test

import (
	"reflect"
	"testing"

	"shapesearch/api"
	"shapesearch/copies"
)

// spoil changes everything in a value that is reached through slices.
func spoil(v reflect.Value) {
	switch v.Kind() {
	case reflect.Slice:
		for i := range v.Len() {
			spoil(v.Index(i))
		}
	case reflect.Struct:
		for i := range v.NumField() {
			spoil(v.Field(i))
		}
	case reflect.Int:
		if v.CanSet() {
			v.SetInt(v.Int() + 1)
		}
	case reflect.Uint8:
		if v.CanSet() {
			v.SetUint(v.Uint() + 1)
		}
	}
}

func check[T any](t *testing.T, copyOf func(T) T, makeOne func() T) {
	t.Helper()
	x := makeOne()
	c := copyOf(x)
	if !reflect.DeepEqual(c, x) {
		t.Errorf("the copy of %v is %v", x, c)
	}
	spoil(reflect.ValueOf(c))
	if !reflect.DeepEqual(x, makeOne()) {
		t.Errorf("%v shares memory with its copy", x)
	}
}

func TestCopies(t *testing.T) {
	word := func() api.Word { return api.Word{Symbols: []int{1, 2}, Bits: []int{3, 4}} }
	entries := func() []api.Entry { return []api.Entry{{Word: word(), Place: api.Place{Series: 1, Start: 2}}} }
	scheme := func() api.Scheme { return api.Scheme{Length: 5, Cuts: []int{1, 2}} }
	neighbours := func() []api.Neighbour { return []api.Neighbour{{At: 3, Distance: api.Ratio{Num: 1, Den: 2}}} }
	watches := func() []api.Watch { return []api.Watch{{Measure: api.Measure{Kind: 1}, Query: []int{1, 2}}} }
	check(t, copies.Word, word)
	check(t, copies.Scheme, scheme)
	check(t, copies.Entries, entries)
	check(t, copies.Tree, func() api.Tree {
		return api.Tree{Scheme: scheme(), Capacity: 3, Nodes: []api.Node{{Word: word(), Piece: 1, Left: 2, Right: 3, Entries: entries()}}}
	})
	check(t, copies.Device, func() api.Device {
		return api.Device{Pages: [][]byte{{1, 2}, {3}}, Pending: []api.Write{{Page: 1, Bytes: []byte{4}}}}
	})
	check(t, copies.Progress, func() api.Progress {
		return api.Progress{Query: []int{1}, Count: 2, Best: []api.Hit{{Place: api.Place{Start: 3}}}, Open: []api.Front{{Node: 4}}, Effort: api.Effort{Nodes: 5}}
	})
	check(t, copies.Growing, func() api.Growing {
		return api.Growing{Values: []int{1}, Profile: api.Profile{Length: 2, All: neighbours(), Left: neighbours(), Right: neighbours()}}
	})
	check(t, copies.Watches, watches)
	check(t, copies.Stream, func() api.Stream {
		return api.Stream{Watches: watches(), Count: 1, Recent: []int{2}, Groups: []api.Group{{Open: true, Last: 3}}}
	})
}
