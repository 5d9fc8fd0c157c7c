package certificate_test

import (
	"math"
	"math/rand"
	"reflect"
	"slices"
	"testing"

	"shapesearch/api"
	"shapesearch/certificate"
	"shapesearch/nearest"
	"shapesearch/ratio"
	"shapesearch/store"
	"shapesearch/trial"
	"shapesearch/within"
	"shapesearch/word"
)

// question is what a proof is about, with the tree that makes it.
type question struct {
	s     api.Scheme
	st    api.Store
	x     api.Tree
	m     api.Measure
	query []int
	count int
	limit api.Ratio
}

func random(r *rand.Rand, kind int) question {
	s, st := trial.Scheme(r.Intn, kind), trial.Store(r.Intn, 50)
	q := question{s: s, st: st, x: trial.Tree(r.Intn, s, st), m: trial.Measure(r.Intn, kind), query: trial.Query(r.Intn, st, s.Length), count: 1 + r.Intn(5)}
	q.limit = api.Ratio{Num: r.Intn(20), Den: 1 + 19*r.Intn(2)}
	if common, e := ratio.Make(q.limit.Num, q.limit.Den); e == api.OK {
		q.limit = common
	}
	if hits, _ := store.Hits(st, q.m, q.query); len(hits) > 0 && r.Intn(2) == 0 {
		q.limit = hits[r.Intn(len(hits))].Distance
	}
	return q
}

// under returns the places below a node, in order.
func under(x api.Tree, at int) []api.Place {
	if at < 0 {
		return nil
	}
	n := x.Nodes[at]
	l := append(under(x, n.Left), under(x, n.Right)...)
	for _, e := range n.Entries {
		l = append(l, e.Place)
	}
	return l
}

// wanted builds the blocks of the nodes that were looked into, and of the others.
func wanted(q question, looked map[int]bool) []api.Block {
	bounds, _ := nearest.Bounds(q.x, q.m, q.query)
	parent := make([]int, len(q.x.Nodes))
	parent[0] = -1
	for i, n := range q.x.Nodes {
		if n.Left >= 0 {
			parent[n.Left], parent[n.Right] = i, i
		}
	}
	all, _ := store.Hits(q.st, q.m, q.query)
	var first, rest []api.Block
	for i, n := range q.x.Nodes {
		places := under(q.x, i)
		if len(places) == 0 {
			continue
		}
		if looked[i] && n.Left < 0 {
			hits := slices.DeleteFunc(slices.Clone(all), func(h api.Hit) bool { return !slices.Contains(places, h.Place) })
			first = append(first, api.Block{Hits: hits})
		}
		if !looked[i] && (parent[i] < 0 || looked[parent[i]]) {
			rest = append(rest, api.Block{Word: n.Word, Places: places, Claim: api.Claim{Kind: api.BoundRegion, Value: bounds[i]}})
		}
	}
	return append(first, rest...)
}

// lookedWithin returns the nodes that a search within a distance looks into.
func lookedWithin(q question) map[int]bool {
	bounds, _ := nearest.Bounds(q.x, q.m, q.query)
	looked := map[int]bool{}
	var look func(at int)
	look = func(at int) {
		if at < 0 || len(under(q.x, at)) == 0 && at > 0 || ratio.Less(q.limit, bounds[at]) {
			return
		}
		looked[at] = true
		look(q.x.Nodes[at].Left)
		look(q.x.Nodes[at].Right)
	}
	look(0)
	return looked
}

// lookedNearest returns the nodes that a search for the nearest windows looks into.
func lookedNearest(q question) map[int]bool {
	bounds, _ := nearest.Bounds(q.x, q.m, q.query)
	all, _ := store.Hits(q.st, q.m, q.query)
	looked := map[int]bool{}
	var known []api.Ratio
	open := []int{0}
	for len(open) > 0 {
		slices.SortFunc(open, func(a, b int) int {
			if c := ratio.Cmp(bounds[a], bounds[b]); c != 0 {
				return c
			}
			return a - b
		})
		at := open[0]
		if len(known) >= q.count && ratio.Less(known[q.count-1], bounds[at]) {
			break
		}
		looked[at], open = true, open[1:]
		n := q.x.Nodes[at]
		for _, e := range n.Entries {
			i := slices.IndexFunc(all, func(h api.Hit) bool { return h.Place == e.Place })
			known = append(known, all[i].Distance)
		}
		slices.SortFunc(known, ratio.Cmp)
		for _, child := range []int{n.Left, n.Right} {
			if len(under(q.x, child)) > 0 {
				open = append(open, child)
			}
		}
	}
	return looked
}

func same(a, b []api.Block) bool {
	return slices.EqualFunc(a, b, func(a, b api.Block) bool {
		return slices.Equal(a.Hits, b.Hits) && slices.Equal(a.Places, b.Places) && a.Claim == b.Claim && slices.Equal(a.Word.Bits, b.Word.Bits) && slices.Equal(a.Word.Symbols, b.Word.Symbols)
	})
}

// TestProofs tests P35.3, and that proofs are accepted (P35.1 and P35.2).
func TestProofs(t *testing.T) {
	r := rand.New(rand.NewSource(67))
	excluded := 0
	for i := range 300 {
		q := random(r, 1+i%5)
		l, e := certificate.Nearest(q.x, q.st, q.m, q.query, q.count)
		if want := wanted(q, lookedNearest(q)); !same(l, want) || e != api.OK {
			t.Fatalf("Nearest is %v, %d, want %v", l, e, want)
		}
		hits, e := certificate.CheckNearest(q.s, q.st, q.m, q.query, q.count, l)
		if want, _ := store.Nearest(q.st, q.m, q.query, q.count); !slices.Equal(hits, want) || e != api.OK {
			t.Fatalf("CheckNearest is %v, %d, want %v", hits, e, want)
		}
		l, e = certificate.Within(q.x, q.st, q.m, q.query, q.limit)
		if want := wanted(q, lookedWithin(q)); !same(l, want) || e != api.OK {
			t.Fatalf("Within is %v, %d, want %v", l, e, want)
		}
		hits, e = certificate.CheckWithin(q.s, q.st, q.m, q.query, q.limit, l)
		if want, _, _ := within.Search(q.x, q.st, q.m, q.query, q.limit); !slices.Equal(hits, want) || e != api.OK {
			t.Fatalf("CheckWithin is %v, %d, want %v", hits, e, want)
		}
		if len(l) > 0 && len(l[len(l)-1].Places) > 0 {
			excluded++
		}
	}
	if excluded < 20 {
		t.Errorf("only %d proofs exclude something", excluded)
	}
}

// copied returns a copy of blocks that can be changed.
func copied(l []api.Block) []api.Block {
	c := slices.Clone(l)
	for i := range c {
		c[i].Hits, c[i].Places = slices.Clone(c[i].Hits), slices.Clone(c[i].Places)
		c[i].Word = api.Word{Symbols: slices.Clone(c[i].Word.Symbols), Bits: slices.Clone(c[i].Word.Bits)}
	}
	return c
}

// damage changes something in blocks.
func damage(r *rand.Rand, l []api.Block) []api.Block {
	l = copied(l)
	if len(l) == 0 {
		return []api.Block{{Hits: []api.Hit{{Distance: api.Ratio{Den: 1}}}}}
	}
	i, j := r.Intn(len(l)), r.Intn(len(l))
	b := &l[i]
	switch r.Intn(12) {
	case 0:
		return slices.Delete(l, i, i+1)
	case 1:
		return append(l, l[i])
	case 2:
		b.Claim.Value.Num++
	case 3:
		b.Claim.Pieces++
	case 4:
		b.Claim.Kind = api.BoundPieces
	case 5:
		l[i].Word, l[j].Word = l[j].Word, l[i].Word
	case 6:
		l[i].Claim, l[j].Claim = l[j].Claim, l[i].Claim
	case 7:
		l[i].Hits, l[j].Hits = l[j].Hits, l[i].Hits
	case 8:
		l[i].Places, l[j].Places = l[j].Places, l[i].Places
	case 9:
		if len(b.Hits) > 0 {
			b.Hits[r.Intn(len(b.Hits))].Distance.Num++
		}
	case 10:
		if len(b.Hits) > 0 {
			b.Hits[r.Intn(len(b.Hits))].Place.Start++
		}
		if len(b.Places) > 0 {
			b.Places[r.Intn(len(b.Places))].Start--
		}
	case 11:
		for p, bits := range b.Word.Bits {
			if bits > 0 && r.Intn(2) == 0 {
				b.Word.Bits[p]--
				b.Word.Symbols[p] /= 2
			}
		}
	}
	return l
}

// TestDamage tests P35.1 and P35.2: whatever is accepted proves the answers.
func TestDamage(t *testing.T) {
	r := rand.New(rand.NewSource(68))
	refused := 0
	for i := range 1500 {
		q := random(r, 1+i%5)
		l, _ := certificate.Nearest(q.x, q.st, q.m, q.query, q.count)
		hits, e := certificate.CheckNearest(q.s, q.st, q.m, q.query, q.count, damage(r, l))
		if want, _ := store.Nearest(q.st, q.m, q.query, q.count); e == api.OK && !slices.Equal(hits, want) || e != api.OK && (len(hits) > 0 || e != api.ErrProof) {
			t.Fatalf("CheckNearest is %v, %d, want %v", hits, e, want)
		}
		if e != api.OK {
			refused++
		}
		l, _ = certificate.Within(q.x, q.st, q.m, q.query, q.limit)
		hits, e = certificate.CheckWithin(q.s, q.st, q.m, q.query, q.limit, damage(r, l))
		if want, _ := store.Within(q.st, q.m, q.query, q.limit); e == api.OK && !slices.Equal(hits, want) || e != api.OK && (len(hits) > 0 || e != api.ErrProof) {
			t.Fatalf("CheckWithin is %v, %d, want %v", hits, e, want)
		}
		if e != api.OK {
			refused++
		}
	}
	if refused < 500 {
		t.Errorf("only %d of the damaged proofs are refused", refused)
	}
}

var (
	scheme = api.Scheme{Measure: api.Measure{Kind: 1}, Length: 2, Pieces: 2, Cuts: []int{0, 100}}
	series = api.Store{Series: [][]int{{1, 2, 3}, {200, 300}}}
	query  = []int{1, 2}
)

func num(n int) api.Ratio { return api.Ratio{Num: n, Den: 1} }

func hit(d, series, start int) api.Hit {
	return api.Hit{Distance: num(d), Place: api.Place{Series: series, Start: start}}
}

// TestBlocks tests what P35.1 and P35.2 say of blocks, by cases that are written out.
func TestBlocks(t *testing.T) {
	near, far := []api.Hit{hit(0, 0, 0), hit(2, 0, 1)}, hit(199*199+298*298, 1, 0)
	// The word of 200, 300; the distance of 1, 2 from its region is 99 * 99 + 98 * 98.
	w, _ := word.Of(scheme, []int{200, 300})
	bound := 99*99 + 98*98
	places := []api.Place{{Series: 1}}
	claim := func(n int) api.Claim { return api.Claim{Kind: api.BoundRegion, Value: num(n)} }
	one := api.Block{Hits: near}
	two := api.Block{Places: places, Word: w, Claim: claim(bound)}
	with := func(f func(b *api.Block)) api.Block {
		b := copied([]api.Block{two})[0]
		f(&b)
		return b
	}
	for i, v := range []struct {
		l                      []api.Block
		nearest, three, within bool // for 2 windows, for 3 windows, and within the distance 2
	}{
		{[]api.Block{one, two}, true, false, true},
		{[]api.Block{two, one}, true, false, true},
		{[]api.Block{{Hits: []api.Hit{near[1], far, near[0]}}}, true, true, true},
		{[]api.Block{{Hits: near[1:]}, {}, {Hits: near[:1]}, two}, true, false, true},
		{[]api.Block{one, {Hits: []api.Hit{far}}}, true, true, true},
		{[]api.Block{one}, false, false, false},
		{[]api.Block{two}, false, false, false},
		{nil, false, false, false},
		{[]api.Block{one, two, two}, false, false, false},
		{[]api.Block{one, one, two}, false, false, false},
		{[]api.Block{{Hits: []api.Hit{near[0], near[0], near[1]}}, two}, false, false, false},
		{[]api.Block{{Hits: []api.Hit{near[0], hit(3, 0, 1)}}, two}, false, false, false},
		{[]api.Block{{Hits: []api.Hit{near[0], {Distance: api.Ratio{Num: 4, Den: 2}, Place: near[1].Place}}}, two}, false, false, false},
		{[]api.Block{{Hits: []api.Hit{near[0], hit(2, 0, 2)}}, two}, false, false, false},
		{[]api.Block{{Hits: append(near[:2:2], hit(0, -1, math.MaxInt))}, two}, false, false, false},
		{[]api.Block{one, with(func(b *api.Block) { b.Claim = claim(3) })}, true, false, true},
		{[]api.Block{one, with(func(b *api.Block) { b.Claim = claim(2) })}, false, false, false},
		{[]api.Block{one, with(func(b *api.Block) { b.Claim = claim(bound + 1) })}, false, false, false},
		{[]api.Block{one, with(func(b *api.Block) { b.Claim.Pieces = 2 })}, false, false, false},
		{[]api.Block{one, with(func(b *api.Block) { b.Claim.Kind = api.BoundDistance })}, false, false, false},
		{[]api.Block{one, with(func(b *api.Block) { b.Claim = api.Claim{} })}, false, false, false},
		{[]api.Block{one, with(func(b *api.Block) { b.Word.Symbols[0]-- })}, false, false, false},
		{[]api.Block{one, with(func(b *api.Block) { b.Word.Symbols[0] = 16 })}, false, false, false},
		{[]api.Block{one, with(func(b *api.Block) { b.Word = api.Word{} })}, false, false, false},
		{[]api.Block{one, with(func(b *api.Block) { b.Word = api.Word{Symbols: []int{0, 0}, Bits: []int{0, 0}} })}, false, false, false},
		{[]api.Block{{Hits: near[:1]}, with(func(b *api.Block) { b.Places = append(b.Places, near[1].Place) })}, false, false, false},
		{[]api.Block{with(func(b *api.Block) { b.Hits = near })}, false, false, false},
		{[]api.Block{{Hits: near[:1]}, with(func(b *api.Block) { b.Hits = near[1:] })}, false, false, false},
		{[]api.Block{{Hits: near, Word: api.Word{Symbols: w.Symbols}}, two}, false, false, false},
		{[]api.Block{{Hits: near, Word: api.Word{Bits: w.Bits}}, two}, false, false, false},
		{[]api.Block{one, two, {Claim: claim(0)}}, false, false, false},
		{[]api.Block{one, two, {Word: w}}, false, false, false},
		{[]api.Block{{Hits: near, Claim: claim(0)}, two}, false, false, false},
		{[]api.Block{{Hits: near, Word: w}, two}, false, false, false},
		{[]api.Block{one, two, {Word: api.Word{Symbols: []int{}, Bits: []int{}}}}, true, false, true},
		{[]api.Block{one, with(func(b *api.Block) { b.Places = append(b.Places, b.Places...) })}, false, false, false},
	} {
		check := func(name string, hits []api.Hit, e api.Errno, want bool, l []api.Hit) {
			if want && (!slices.Equal(hits, l) || e != api.OK) || !want && (len(hits) > 0 || e != api.ErrProof) {
				t.Errorf("%d: %s is %v, %d", i, name, hits, e)
			}
		}
		before := copied(v.l)
		hits, e := certificate.CheckNearest(scheme, series, scheme.Measure, query, 2, v.l)
		check("CheckNearest", hits, e, v.nearest, near)
		hits, e = certificate.CheckNearest(scheme, series, scheme.Measure, query, 3, v.l)
		check("CheckNearest of all", hits, e, v.three, append(near[:2:2], far))
		hits, e = certificate.CheckWithin(scheme, series, scheme.Measure, query, num(2), v.l)
		check("CheckWithin", hits, e, v.within, near)
		if !reflect.DeepEqual(v.l, before) {
			t.Errorf("%d: the blocks were changed", i)
		}
	}
}

// TestErrors tests the errors of P35.1 to P35.3 in their order.
func TestErrors(t *testing.T) {
	bad := api.Scheme{Measure: api.Measure{Kind: 1}, Length: 3, Pieces: 4}
	three := api.Scheme{Measure: api.Measure{Kind: 1}, Length: 3, Pieces: 1}
	many := make([]api.Block, api.MaxEntries+1)
	for i, v := range []struct {
		s       api.Scheme
		st      api.Store
		m       api.Measure
		q       []int
		count   int
		limit   api.Ratio
		l       []api.Block
		nearest api.Errno
		within  api.Errno
	}{
		{bad, api.Store{Series: [][]int{{1001}}}, trial.BadMeasure(), nil, 0, num(-1), many, api.ErrSample, api.ErrSample},
		{bad, series, trial.BadMeasure(), nil, 0, num(-1), many, api.ErrMeasure, api.ErrMeasure},
		{bad, series, scheme.Measure, []int{1}, 0, num(-1), many, api.ErrLength, api.ErrLength},
		{bad, series, scheme.Measure, []int{1, 1001}, 0, num(-1), many, api.ErrSample, api.ErrSample},
		{bad, series, api.Measure{Kind: 2}, query, 0, num(-1), many, api.ErrWord, api.ErrWord},
		{three, series, api.Measure{Kind: 2}, query, 0, num(-1), many, api.ErrMeasure, api.ErrMeasure},
		{three, series, scheme.Measure, query, 0, num(-1), many, api.ErrLength, api.ErrLength},
		{scheme, series, scheme.Measure, query, 0, num(-1), many, api.ErrCount, api.ErrRange},
		{scheme, series, scheme.Measure, query, 65, api.Ratio{}, many, api.ErrCount, api.ErrRange},
		{scheme, series, scheme.Measure, query, 64, num(0), many, api.ErrLimit, api.ErrLimit},
		{scheme, series, scheme.Measure, query, 64, num(0), many[1:], api.ErrProof, api.ErrProof},
		{scheme, api.Store{}, scheme.Measure, query, 64, num(0), many[1:], api.OK, api.OK},
	} {
		if hits, e := certificate.CheckNearest(v.s, v.st, v.m, v.q, v.count, v.l); len(hits) > 0 || e != v.nearest {
			t.Errorf("%d: CheckNearest is %v, %d", i, hits, e)
		}
		if hits, e := certificate.CheckWithin(v.s, v.st, v.m, v.q, v.limit, v.l); len(hits) > 0 || e != v.within {
			t.Errorf("%d: CheckWithin is %v, %d", i, hits, e)
		}
	}
	x := trial.Tree(func(int) int { return 1 }, scheme, series)
	for i, v := range []struct {
		x       api.Tree
		st      api.Store
		q       []int
		count   int
		limit   api.Ratio
		nearest api.Errno
		within  api.Errno
	}{
		{api.Tree{}, series, query, 0, num(-1), api.ErrWord, api.ErrWord},
		{x, series, nil, 0, num(-1), api.ErrLength, api.ErrLength},
		{x, api.Store{}, query, 0, num(-1), api.ErrTree, api.ErrTree},
		{x, series, query, 0, num(-1), api.ErrCount, api.ErrRange},
		{x, series, query, 65, api.Ratio{Num: 2, Den: 2}, api.ErrCount, api.ErrRange},
	} {
		if l, e := certificate.Nearest(v.x, v.st, scheme.Measure, v.q, v.count); len(l) > 0 || e != v.nearest {
			t.Errorf("%d: Nearest is %v, %d", i, l, e)
		}
		if l, e := certificate.Within(v.x, v.st, scheme.Measure, v.q, v.limit); len(l) > 0 || e != v.within {
			t.Errorf("%d: Within is %v, %d", i, l, e)
		}
	}
}
