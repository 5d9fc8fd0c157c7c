// Package rules tests the rules R1 to R3 for all functions of the layers: that they end without a panic, leave their
// arguments alone, share no memory with them, and depend on nothing else.
package rules

import (
	"cmp"
	"math"
	"math/rand"
	"reflect"
	"slices"
	"testing"

	"shapesearch/api"
	"shapesearch/device"
	"shapesearch/growing"
	"shapesearch/heap"
	"shapesearch/index"
	"shapesearch/packet"
	"shapesearch/profile"
	"shapesearch/progressive"
	"shapesearch/segment"
	"shapesearch/sketch"
	"shapesearch/trial"
	"shapesearch/watch"
	"shapesearch/window"
	"shapesearch/word"
)

var numbers = []int{
	0, 1, 2, 3, 4, 5, 7, 8, 15, 16, 31, 32, 33, 63, 64, 65, 100, 999, 1000, 1001, 1999, 2000, 2001, 2002, -1, -2, -5, -1000, -1001, api.Missing, api.Missing + 1,
	1 << 20, 1<<31 - 1, 1 << 31, 1<<31 + 1, -1 << 31, 1 << 40, 1<<40 + 1, -1 << 40, 1 << 41, 1 << 60, 1 << 61, 1<<61 + 1, 1 << 62, 1<<62 + 1, math.MaxInt, math.MaxInt - 1, math.MinInt, math.MinInt + 1,
}

// world has valid values, some of which fit each other, by their types.
type world map[reflect.Type][]reflect.Value

func (w world) add(values ...any) {
	for _, x := range values {
		v := reflect.ValueOf(x)
		w[v.Type()] = append(w[v.Type()], v)
	}
}

func made(r *rand.Rand, kind int) world {
	w := world{}
	s, st, other := trial.Scheme(r.Intn, kind), trial.Store(r.Intn, 25), trial.Store(r.Intn, 12)
	t, m := trial.Tree(r.Intn, s, st), s.Measure
	query, long := trial.Query(r.Intn, st, s.Length), trial.Query(r.Intn, st, min(32, s.Length+2))
	l := trial.Samples(r.Intn, 20, 9, 12)
	full, _ := word.Of(s, query)
	root, _ := word.Root(s)
	region, _ := word.Region(s, root)
	sums, _ := window.Of(query)
	sketched, _ := sketch.Of(query, s.Pieces)
	readings := []api.Reading{{Time: 3, Value: 5}, {Time: 9, Value: -7}, {Time: 30, Value: 8}}
	packed, _ := packet.Encode(readings)
	series := api.Series{Start: 10, Step: 5, Values: l}
	segments, _ := segment.Store(series)
	p, _ := profile.Of(l, m, s.Length, 1+r.Intn(5))
	g, _ := growing.New(m, 2, 1)
	for _, n := range l[:5] {
		g, _ = growing.Add(g, n)
	}
	d, _ := device.New(40)
	d, _ = index.Save(d, t)
	pending, _ := device.Write(d, 3, []byte{1, 2, 3})
	search, _ := progressive.Begin(t, st, m, query, 3)
	later, _ := progressive.Step(t, st, search)
	watches := []api.Watch{{Measure: m, Query: query, Limit: api.Ratio{Num: 9, Den: 1}}, {Measure: api.Measure{Kind: 1}, Query: []int{0, 1}, Limit: api.Ratio{Den: 1}}}
	stream, _ := watch.New(watches)
	for _, n := range query {
		stream, _, _, _ = watch.Feed(stream, n)
	}
	records, _ := index.Encode(t)
	plan, _ := heap.Plan(d, records[:1])
	w.add(s, st, other, t, m, query, long, l, full, root, region, sums, sketched, readings, packed, series, segments, p, g, d, pending, search, later, watches, stream, records, plan)
	w.add([][]int{query, query}, api.Grid{Step: 4, Count: 9, Rule: 1 + r.Intn(3), Reach: 9}, api.Unit{Name: "c", Mul: 1, Div: 1}, []api.Unit{{Name: "raw", Mul: 1, Div: 1}}, api.Ratio{Num: 3, Den: 2}, api.Ratio{Num: 40, Den: 1}, api.Decimal{Digits: 5, Places: 1})
	w.add("3/2", "12.5", "warp 3", "5 1 raw\n", "series 1 2 3 4\nscheme 1 0 0 2 1 4\nnearest 1 1 2\nmotif 0 1\nprove 2 3 3\n")
	return w
}

// value returns a value of a type: a valid one, one that is nearly valid, or any.
func (w world) value(r *rand.Rand, t reflect.Type, depth int) reflect.Value {
	if l := w[t]; len(l) > 0 && r.Intn(10) < 8 {
		v := spacious(l[r.Intn(len(l))])
		if r.Intn(4) == 0 {
			w.spoil(r, v, depth)
		}
		return v
	}
	v := reflect.New(t).Elem()
	switch t.Kind() {
	case reflect.Int:
		v.SetInt(int64(numbers[r.Intn(len(numbers))]))
		if r.Intn(2) == 0 {
			v.SetInt(int64(r.Intn(9)))
		}
	case reflect.Uint8:
		v.SetUint(uint64(r.Intn(256)))
	case reflect.Uint32:
		v.SetUint(uint64(r.Uint32()))
	case reflect.Bool:
		v.SetBool(r.Intn(2) == 0)
	case reflect.String:
		b := make([]byte, r.Intn(9))
		for i := range b {
			b[i] = "0123456789-/. \nabc#"[r.Intn(19)]
		}
		v.SetString(string(b))
	case reflect.Slice:
		n := 0
		if depth < 5 {
			n = r.Intn(6)
		}
		v.Set(reflect.MakeSlice(t, n, n+r.Intn(3)))
		for i := range n {
			v.Index(i).Set(w.value(r, t.Elem(), depth+1))
		}
	case reflect.Struct:
		for i := range t.NumField() {
			v.Field(i).Set(w.value(r, t.Field(i).Type, depth+1))
		}
	}
	return v
}

// spoil changes one part of a value.
func (w world) spoil(r *rand.Rand, v reflect.Value, depth int) {
	switch v.Kind() {
	case reflect.Slice:
		switch {
		case v.Len() > 0 && r.Intn(4) > 0:
			w.spoil(r, v.Index(r.Intn(v.Len())), depth+1)
		case v.Len() > 0:
			v.Set(v.Slice(0, r.Intn(v.Len())))
		}
	case reflect.Struct:
		w.spoil(r, v.Field(r.Intn(v.NumField())), depth+1)
	default:
		v.Set(w.value(r, v.Type(), depth+1))
	}
}

// spacious returns a copy of a value whose slices have spare capacity, with something in it.
func spacious(v reflect.Value) reflect.Value {
	c := reflect.New(v.Type()).Elem()
	switch v.Kind() {
	case reflect.Slice:
		if v.IsNil() {
			return c
		}
		c.Set(reflect.MakeSlice(v.Type(), v.Len()+2, v.Len()+2))
		for i := range v.Len() {
			c.Index(i).Set(spacious(v.Index(i)))
		}
		c.Set(c.Slice(0, v.Len()))
	case reflect.Struct:
		for i := range v.NumField() {
			c.Field(i).Set(spacious(v.Field(i)))
		}
	default:
		c.Set(v)
	}
	return c
}

// all returns what a slice has within its capacity, in a form that can be compared.
func all(v reflect.Value) any {
	switch v.Kind() {
	case reflect.Slice:
		if v.Type().Elem().Kind() == reflect.Uint8 {
			return [2]any{v.Len(), string(v.Slice(0, v.Cap()).Bytes())}
		}
		l := []any{v.Len(), v.Cap()}
		for i := range v.Cap() {
			l = append(l, all(v.Slice(0, v.Cap()).Index(i)))
		}
		return l
	case reflect.Struct:
		var l []any
		for i := range v.NumField() {
			l = append(l, all(v.Field(i)))
		}
		return l
	}
	return v.Interface()
}

// wipe changes all numbers that are reached through the slices of a value, within their capacity.
func wipe(v reflect.Value) {
	switch v.Kind() {
	case reflect.Slice:
		for i := range v.Cap() {
			wipe(v.Slice(0, v.Cap()).Index(i))
		}
	case reflect.Struct:
		for i := range v.NumField() {
			wipe(v.Field(i))
		}
	case reflect.Int:
		if v.CanSet() {
			v.SetInt(v.Int() ^ 0x55)
		}
	case reflect.Uint8:
		if v.CanSet() {
			v.SetUint(v.Uint() ^ 0x55)
		}
	case reflect.Bool:
		if v.CanSet() {
			v.SetBool(!v.Bool())
		}
	}
}

// equal compares results, with nil and empty slices as equivalent.
func equal(a, b reflect.Value) bool {
	switch a.Kind() {
	case reflect.Slice:
		if a.Len() != b.Len() {
			return false
		}
		for i := range a.Len() {
			if !equal(a.Index(i), b.Index(i)) {
				return false
			}
		}
		return true
	case reflect.Struct:
		for i := range a.NumField() {
			if !equal(a.Field(i), b.Field(i)) {
				return false
			}
		}
		return true
	}
	return a.Equal(b)
}

// rounds is how often all functions are tried out, three times each.
const rounds = 30

// span is the memory of a slice.
type span struct{ from, to uintptr }

// spans returns the memory of all slices in a value.
func spans(v reflect.Value) []span {
	var l []span
	switch v.Kind() {
	case reflect.Slice:
		if v.Cap() > 0 {
			l = append(l, span{v.Pointer(), v.Pointer() + uintptr(v.Cap())*v.Type().Elem().Size()})
		}
		for i := range v.Len() {
			l = append(l, spans(v.Index(i))...)
		}
	case reflect.Struct:
		for i := range v.NumField() {
			l = append(l, spans(v.Field(i))...)
		}
	}
	return l
}

// overlap reports whether two slices in some values share memory.
func overlap(values []reflect.Value) bool {
	var l []span
	for _, v := range values {
		l = append(l, spans(v)...)
	}
	slices.SortFunc(l, func(a, b span) int { return cmp.Compare(a.from, b.from) })
	for i := 1; i < len(l); i++ {
		if l[i].from < l[i-1].to {
			return true
		}
	}
	return false
}

func TestRules(t *testing.T) {
	r := rand.New(rand.NewSource(84))
	for round := range rounds {
		w := made(r, 1+round%5)
		for name, f := range functions() {
			for range 3 {
				tryOut(t, r, w, name, reflect.ValueOf(f))
			}
		}
	}
}

// tryOut calls a function twice with the same arguments.
func tryOut(t *testing.T, r *rand.Rand, w world, name string, f reflect.Value) {
	var args, again []reflect.Value
	var before []any
	for i := range f.Type().NumIn() {
		v := w.value(r, f.Type().In(i), 0)
		args, again, before = append(args, v), append(again, spacious(v)), append(before, all(v))
	}
	defer func() {
		if p := recover(); p != nil {
			t.Fatalf("%s panics with %v: %v", name, before, p)
		}
	}()
	results := f.Call(args)
	check := func(what string) {
		for i, v := range args {
			if !reflect.DeepEqual(all(v), before[i]) {
				t.Fatalf("%s %s the argument %d of %v", name, what, i, before)
			}
		}
	}
	check("changes")
	kept := make([]reflect.Value, len(results))
	for i, v := range results {
		kept[i] = spacious(v)
	}
	for i, v := range f.Call(again) {
		if !equal(v, kept[i]) {
			t.Fatalf("%s of %v is %v, and then %v", name, before, kept[i], v)
		}
	}
	if overlap(results) {
		t.Fatalf("two slices in the results of %s share memory", name)
	}
	for _, v := range results {
		wipe(v)
	}
	check("shares memory with")
}
