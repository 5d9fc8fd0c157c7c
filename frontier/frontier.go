// Package frontier is what the searches through a tree (chapter 30) have in common.
package frontier

import (
	"slices"

	"shapesearch/api"
	"shapesearch/bound"
	"shapesearch/measure"
	"shapesearch/order"
	"shapesearch/ratio"
	"shapesearch/run"
	"shapesearch/store"
	"shapesearch/tree"
)

// Check returns the error of a tree, or of a store.
func Check(t api.Tree, st api.Store) api.Errno {
	if e := tree.Check(t); e != api.OK {
		return e
	}
	return store.Check(st)
}

// Question is a query to the windows of a store with its tree. All of them are valid, and the query has at least the
// Length of the tree's scheme.
type Question struct {
	tree   api.Tree
	store  api.Store
	scheme api.Scheme // with the measure of the query
	query  []int
	filled []bool // for each node, whether it or a node below it has entries
}

// Ask returns a question.
func Ask(t api.Tree, st api.Store, m api.Measure, query []int) Question {
	q := Question{tree: t, store: st, scheme: t.Scheme, query: query, filled: make([]bool, len(t.Nodes))}
	q.scheme.Measure = m
	for i, n := range slices.Backward(t.Nodes) {
		q.filled[i] = len(n.Entries) > 0 || n.Left >= 0 && (q.filled[n.Left] || q.filled[n.Right])
	}
	return q
}

// Of returns the same question about another query.
func (q Question) Of(query []int) Question {
	q.query = query
	return q
}

// Front returns a node with its bound, for as many samples of the query as the tree's words stand for.
func (q Question) Front(node int) api.Front {
	b, _ := bound.Region(q.scheme, q.query[:q.scheme.Length], q.tree.Nodes[node].Word)
	return api.Front{Node: node, Bound: b}
}

// Below returns the children of a node that have entries, with their bounds.
func (q Question) Below(node int) []api.Front {
	n := q.tree.Nodes[node]
	if n.Left < 0 {
		return nil
	}
	var l []api.Front
	for _, child := range []int{n.Left, n.Right} {
		if q.filled[child] {
			l = append(l, q.Front(child))
		}
	}
	return l
}

// Compare returns the windows of a node that begin as many samples of the store as the query has, none of them
// missing, with their distances; and whether all of its windows do.
func (q Question) Compare(node int) ([]api.Hit, bool) {
	var hits []api.Hit
	entries := q.tree.Nodes[node].Entries
	for _, entry := range entries {
		window, there := q.window(entry.Place)
		if !there {
			continue
		}
		distance, e := measure.Distance(q.scheme.Measure, q.query, window)
		if e == api.OK {
			hits = append(hits, api.Hit{Distance: distance, Place: entry.Place})
		}
	}
	return hits, len(hits) == len(entries)
}

// window returns as many samples as the query has from a place on.
func (q Question) window(p api.Place) ([]int, bool) {
	if p.Series >= len(q.store.Series) || p.Start > len(q.store.Series[p.Series])-len(q.query) {
		return nil, false
	}
	w := q.store.Series[p.Series][p.Start : p.Start+len(q.query)]
	return w, !slices.Contains(w, api.Missing)
}

// Total returns how many windows of the length of the query the store has.
func (q Question) Total() int {
	places, _ := store.Places(q.store, len(q.query))
	return len(places)
}

// Covers reports whether the entries of a valid tree are those of a valid store, all of them.
func Covers(t api.Tree, st api.Store) bool {
	l, e := run.Of(t.Scheme, st)
	if e != api.OK {
		return false
	}
	left := map[api.Place]api.Word{}
	for _, entry := range l {
		left[entry.Place] = entry.Word
	}
	for _, n := range t.Nodes {
		for _, entry := range n.Entries {
			w, there := left[entry.Place]
			if !there || !slices.Equal(w.Symbols, entry.Word.Symbols) {
				return false
			}
			delete(left, entry.Place)
		}
	}
	return len(left) == 0
}

// Before reports whether an open node is taken before another one.
func Before(a, b api.Front) bool {
	c := ratio.Cmp(a.Bound, b.Bound)
	return c < 0 || c == 0 && a.Node < b.Node
}

// Ends reports whether nothing can come before the first count hits any more, if the least bound is this one.
func Ends(best []api.Hit, count int, least api.Ratio) bool {
	return count > 0 && len(best) >= count && ratio.Less(best[count-1].Distance, least)
}

// Keep returns the first count of the best hits and some more, in order.
func Keep(best, more []api.Hit, count int) []api.Hit {
	all := slices.Concat(best, more)
	Sort(all)
	return slices.Clone(all[:min(count, len(all))])
}

// Sort brings hits into their order.
func Sort(hits []api.Hit) {
	slices.SortFunc(hits, order.Hits)
}
