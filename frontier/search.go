package frontier

import (
	"slices"

	"shapesearch/api"
)

// Open is where the open nodes of a search wait.
type Open interface {
	// Put adds a node.
	Put(api.Front)
	// Take returns the node that is taken next, and removes it; false if there is none.
	Take() (api.Front, bool)
}

// Found is what a search has found, and where it has looked.
type Found struct {
	Hits     []api.Hit
	Looked   []int // the nodes that were looked into, in this order
	Compared int
}

// Search carries out a search for count windows.
func (q Question) Search(count int, open Open) Found {
	var found Found
	open.Put(q.Front(0))
	for {
		next, there := open.Take()
		if !there || Ends(found.Hits, count, next.Bound) {
			return found
		}
		found.Looked = append(found.Looked, next.Node)
		hits, _ := q.Compare(next.Node)
		found.Compared += len(hits)
		found.Hits = Keep(found.Hits, hits, count)
		for _, f := range q.Below(next.Node) {
			open.Put(f)
		}
	}
}

// Walk looks into the root, and into what is below the nodes that it has looked into, as far as their bounds are near.
// It finds the windows whose distances are near, in order.
func (q Question) Walk(near func(api.Ratio) bool) Found {
	var found Found
	var look func(f api.Front)
	look = func(f api.Front) {
		if !near(f.Bound) {
			return
		}
		found.Looked = append(found.Looked, f.Node)
		hits, _ := q.Compare(f.Node)
		found.Compared += len(hits)
		for _, h := range hits {
			if near(h.Distance) {
				found.Hits = append(found.Hits, h)
			}
		}
		for _, child := range q.Below(f.Node) {
			look(child)
		}
	}
	look(q.Front(0))
	Sort(found.Hits)
	return found
}

// Effort returns what a search has cost.
func (q Question) Effort(f Found) api.Effort {
	return api.Effort{Nodes: len(f.Looked), Compared: f.Compared, Pruned: q.Total() - f.Compared}
}

// List is open nodes in a list, the next one at its end.
type List []api.Front

// Put adds a node.
func (l *List) Put(f api.Front) {
	at, _ := slices.BinarySearchFunc(*l, f, func(a, b api.Front) int {
		if Before(b, a) {
			return -1
		}
		return 1
	})
	*l = slices.Insert(*l, at, f)
}

// Take returns the next node, and removes it.
func (l *List) Take() (api.Front, bool) {
	last := len(*l) - 1
	if last < 0 {
		return api.Front{}, false
	}
	f := (*l)[last]
	*l = (*l)[:last]
	return f, true
}
